"""Limits, [0.4]: all is told quickly for nets of forty hosts, also with votes and needs of hundreds of figures."""

import unittest
from itertools import combinations
from time import perf_counter

from fifthhost.before import covers, fork
from fifthhost.blocks import blocks, cuts, hubs_of, kind, round_of
from fifthhost.breaker import broken, shattered
from fifthhost.captains import captains
from fifthhost.cells import cell_right, knows_right, row_right
from fifthhost.chains import chains, spread
from fifthhost.cluster import Cluster
from fifthhost.counts import logs, once
from fifthhost.dealing import log_of
from fifthhost.desk import Desk
from fifthhost.disks import made_letters, replay
from fifthhost.errors import Refused
from fifthhost.falling import Falling
from fifthhost.hardlots import hard, is_hard
from fifthhost.houses import made_house
from fifthhost.hues import fewest, hued
from fifthhost.judged import clash, is_right, used
from fifthhost.lettertexts import letters_text, read_letters
from fifthhost.listing import least_working, lots, working
from fifthhost.longrings import long_ring, ring_right, some_ring
from fifthhost.lots import apart, hangs, pieces, votes_of, whole, works
from fifthhost.making import rule_of
from fifthhost.netedits import beside, cut_net, renamed, with_host, with_link, with_need, with_votes, without_host
from fifthhost.netedits import without_link
from fifthhost.nets import is_net, made_net
from fifthhost.nettexts import net_text, read_net
from fifthhost.packings import packing, packing_right
from fifthhost.playing import forked, made_moments, play
from fifthhost.readers import commands, meets_all, meets_log, unseen
from fifthhost.records import record_right
from fifthhost.restores import allowed, forgetful, harmful, loss, loss_right, lost, made_restores
from fifthhost.rules import is_rule, made_rule
from fifthhost.ruletexts import read_rule, rule_text
from fifthhost.seams import beyond, inner, is_seam, threshold
from fifthhost.several import each
from fifthhost.stories import run
from fifthhost.storytexts import read_story, story_text
from fifthhost.walks import ring_deal, ring_numbers, walk
from tests.common import (BARE_40, BROAD, FULL_40, LARGE, LARGE_40, RING_40, RINGS, apart_pairs, chained, full_net,
                          hubs_net, linked_net)
from tests.rulesets import ZERO, nested_has, rule_with

# Far more than a call takes, so that a busy machine does not matter, and far less than trying all lots or ways.
SECONDS = 2
ALL_40 = tuple(range(40))
HUGE = 10 ** 4198
HUGE_40 = ((HUGE,) * 40, FULL_40[1], 40 * HUGE)
CHAIN_40 = linked_net(40, [(x, x + 1) for x in range(39)] + [(x, x + 2) for x in range(0, 38, 2)])
HUBS_40 = linked_net(40, [(0, 1)] + [(hub, x) for hub in (0, 1) for x in range(2, 40)])
GRID_40 = linked_net(40, [(x, x + 1) for x in range(39) if x % 8 != 7] + [(x, x + 8) for x in range(32)])
SEVENS = chained([full_net(7, 3)] * 6)
FOURTEENS = chained([hubs_net(14, 5)] * 3)
STAR_40 = linked_net(40, [(0, x) for x in range(1, 40)], need=7)
# Seven hosts that are all linked want the most work with a need of 3, here six times at one host.
STAR_OF_SEVENS = linked_net(37, {pair for k in range(6) for pair in combinations((0, *range(6 * k + 1, 6 * k + 7)), 2)},
                            need=3)
NETS = (BARE_40, RING_40, FULL_40, LARGE_40, HUGE_40, CHAIN_40, HUBS_40, GRID_40, STAR_40, SEVENS, FOURTEENS,
        STAR_OF_SEVENS, chained([RINGS] * 4), chained([full_net(4)] * 13), chained([hubs_net(5), full_net(5)] * 4))

# A house no test of which holds, but for the last one, and moments with all hosts by themselves.
HOUSE_40 = ((("votes", 10 ** 4200), ("first",)), (("last", 999), ("first",)), (("many", 41), ("last",))) * 13 + (
    (("shrunk",), ("last",)),)
MOMENTS_400 = (tuple((x,) for x in range(35)),) * 400
# Restores of the row of hosts in which the others follow one another, as they do in most of these nets.
RESTORES_200 = (tuple((x, (x + 1,)) for x in range(39)) * 6)[:200]

STORY_400 = (("begin", 0, None), ("put", 0, 5, 10 ** 4198, None), ("share", 1), ("change", 1, (1,) * 40, 20, None)) * 100

CALLS = (
    (made_net,), (is_net,), (with_votes, 39, LARGE), (with_need, HUGE), (with_link, 0, 39), (without_link, 0, 39),
    (with_host, 0), (cut_net, ALL_40), (without_host, 20), (renamed, ALL_40[::-1]), (beside, ((), (), 3)),
    (votes_of, ALL_40), (hangs, ALL_40), (works, ALL_40), (pieces, ALL_40[::2]), (whole,), (lots,), (working,),
    (least_working,), (cuts,), (blocks,), (kind, ALL_40), (round_of, ALL_40), (hubs_of, ALL_40),
    (some_ring,), (long_ring,), (ring_right, ALL_40), (once,), (logs,), (packing,), (packing_right, (ALL_40,)),
    (is_seam, 0, ALL_40[1:]), (each, 99), (rule_of,), (hard,), (is_hard, (ALL_40,), HUGE), (meets_all, ALL_40[::2]),
    (unseen, ALL_40[::2]), (commands, ALL_40), (made_rule, rule_with(400)), (is_rule, nested_has(60)),
    (log_of, nested_has(60), ALL_40), (used, ZERO), (clash, ZERO), (is_right, ZERO), (meets_log, ZERO, ALL_40, 0),
    (captains,), (made_house, HOUSE_40), (made_moments, MOMENTS_400), (play, HOUSE_40, MOMENTS_400),
    (forked, HOUSE_40, MOMENTS_400), (broken, ()), (shattered, ((0,),)), (Falling,), (Cluster, ZERO),
    (Cluster, rule_with(400), RESTORES_200), (made_restores, RESTORES_200), (allowed, 0, (1,)), (allowed, 39, ALL_40[:39]),
    (lost, RESTORES_200, ALL_40), (loss, RESTORES_200, ALL_40[1:]), (loss_right, RESTORES_200, ALL_40, RESTORES_200),
    (harmful, ZERO, RESTORES_200), (forgetful, RESTORES_200), (record_right, ZERO, ()), (net_text,),
    (rule_text, rule_with(400)), (read_rule, "has 0 0 ( " * 60 + "one 0" + " )" * 60), (run, ZERO, STORY_400),
)
# Sixty seams, one within another, each of which asks the votes of all other hosts.
SEAMS_60 = ZERO
for _ in range(60):
    SEAMS_60 = ("seam", 0, (39,), HUGE, HUGE, ZERO, SEAMS_60)


def large(net):
    """The net with votes of hundreds of figures, all unlike, and a need that a few hosts have."""
    votes = tuple(LARGE + 7 ** (x * 20) for x in range(len(net[0])))
    return (votes, net[1], net[2] * LARGE + LARGE // 3)


class Quick(unittest.TestCase):

    def within(self, function, *args):
        begin = perf_counter()
        try:
            function(*args)
        except Refused:
            pass
        self.assertLess(perf_counter() - begin, SECONDS, function.__name__)

    def test_forty_hosts(self):
        for net in NETS:
            for function, *others in CALLS:
                self.within(function, net, *others)

    def test_the_two_numbers_with_large_votes(self):
        for net in NETS:
            for function in (once, logs, packing, rule_of):
                self.within(function, large(net))
            self.within(each, large(net), 99)

    def test_seams_of_forty_hosts(self):
        for net in NETS:
            every = tuple(range(len(net[0])))
            for one in (net, large(net)):
                for function in (inner, threshold, beyond):
                    for which in ("once", "logs"):
                        self.within(function, one, 0, every[1:], which)
                        self.within(function, one, every[-1], every[:-1], which)

    def test_walks_of_two_hundred_hosts(self):
        for votes in ((1,) * 200, (0,) * 199 + (1,), tuple(LARGE + 7 ** x for x in range(200)), (HUGE,) * 200):
            for part in (1, 2, 3, 7, 199, 200):
                need = max(1, sum(votes) * part // 200)
                self.within(walk, votes, need)
                self.within(ring_numbers, votes, need, 99)
                self.within(ring_deal, votes, need, 99, 199)

    def test_hues(self):
        pairs = [apart_pairs(list(combinations(range(many), size))) for many, size in ((9, 2), (9, 1), (7, 3), (7, 2))]
        for many, some in zip((36, 9, 35, 21), pairs):
            self.within(fewest, many, some)
            for k in range(many + 1):
                self.within(hued, many, some, k)
        every = tuple(combinations(range(36), 2))
        self.within(fewest, 36, every)
        for k in (0, 1, 17, 35, 36, HUGE):
            self.within(hued, 36, every, k)

    def test_rules(self):
        lots = tuple((lot, 0) for size in range(1, 5) for lot in list(combinations(range(40), size))[:25000])
        for rule in (SEAMS_60, rule_with(400), rule_with(401), nested_has(61), ("table", lots), nested_has(10000)):
            self.within(made_rule, HUGE_40, rule)
            self.within(is_rule, HUGE_40, rule)
            for lot in (ALL_40, ALL_40[:3], (0,), ()):
                self.within(log_of, HUGE_40, rule, lot)
                self.within(log_of, FULL_40, rule, lot)

    def test_rules_judged(self):
        nine = tuple(combinations(range(9), 2))
        table = ("table", tuple((lot, 7) for size in range(1, 10) for lot in combinations(range(9), size)))
        for votes, need in (((1,) * 9, 1), ((1,) * 9, 5), ((HUGE,) * 9, 3 * HUGE)):
            seams = rule_with(1)
            for _ in range(58):
                seams = ("seam", 0, (8,), need, 1, table, seams)
            for rule in (ZERO, table, seams, rule_with(400), nested_has(60)):
                for function in (used, clash, is_right):
                    self.within(function, (votes, nine, need), rule)
                self.within(meets_log, (votes, nine, need), rule, (0, 4), 7)

    def test_hard_lots(self):
        for need in range(1, 8):
            net = ((LARGE,) * 7, tuple(combinations(range(7), 2)), need * LARGE)
            self.within(hard, net)
            for size in range(1, 8):
                some = tuple(combinations(range(7), size))
                for k in range(8):
                    self.within(is_hard, net, some, k)
        pairs = tuple(combinations(range(9), 2))
        ones = tuple((x,) for x in range(36))
        for k in (0, 5, 6, 7, 8, 35, 36, HUGE):
            self.within(is_hard, ((1,) * 9, pairs, 2), pairs, k)
            self.within(is_hard, ((1,) * 40, (), 1), ones, k)

    def test_houses_and_moments(self):
        for net in (FULL_40, HUGE_40, LARGE_40):
            low = (net[0], net[1], net[2] // 40)
            for moments in (((ALL_40,),) * 400, ((ALL_40[:20], ALL_40[20:]), (ALL_40[::2], ALL_40[1::2])) * 200,
                            (tuple((x,) for x in ALL_40),) * 400):
                for one in (net, low):
                    for house in (HOUSE_40, (), ((("shrunk",), ("last",)),)):
                        self.within(play, one, house, moments)
                        self.within(forked, one, house, moments)
        self.within(broken, ((HUGE,) * 7, tuple(combinations(range(7), 2)), HUGE), HOUSE_40)
        self.within(shattered, linked_net(40, list(combinations(range(40), 2))[:199]), (ALL_40[:6],))
        self.within(shattered, GRID_40, (ALL_40,))

    def test_captains(self):
        every = tuple(combinations(range(9), 2))
        for need in range(1, 10):
            self.within(captains, ((HUGE,) * 9, every, need * HUGE))
        for links in ([(x, x + 1) for x in range(39)], [(0, x) for x in range(1, 40)], []):
            self.within(captains, ((HUGE,) * 40, tuple(links), 3 * HUGE))

    def test_nets_that_fall(self):
        for net in (RING_40, CHAIN_40, STAR_40, BARE_40, SEVENS, FOURTEENS, large(SEVENS), large(RING_40)):
            try:
                falling = Falling(net)
            except Refused:
                continue
            for a, b in net[1][::-1]:
                self.within(falling.cut, a, b)
                self.within(falling.log, a)

    def test_cells(self):
        knows = tuple((e, l, HUGE, HUGE) for e in range(200) for l in range(200))
        row = (HUGE, 999, -HUGE, knows)
        for judge in (knows_right, row_right, cell_right):
            for thing in (knows, row, (0, 0, BROAD[:99000], (row,), 0), (0, 0, (), ((1, 0, 0, ()),) * 40000, 0), BROAD):
                self.within(judge, thing)

    def test_clusters(self):
        for net in NETS:
            many = len(net[0])
            try:
                rule = rule_of(net)
            except Refused:
                rule = ZERO
            c = Cluster(net, rule)
            for a, b in net[1]:
                self.within(c.cut, a, b)
            for a, b in net[1]:
                self.within(c.mend, a, b)
            for x in range(0, many, 3):
                self.within(c.begin, x)
                self.within(c.put, x, 5, HUGE)
            for x in (0, many - 1):
                for method, *args in ((c.change, net[0], net[2]), (c.begin,), (c.put, 7, -HUGE), (c.share,), (c.known,),
                                      (c.show, 5), (c.read, (0, 0)), (c.letters,), (c.down,), (c.forget,), (c.wipe,), (c.up,),
                                      (c.restore, 1), (c.part,)):
                    self.within(method, x, *args)
            for e in (0, 1):
                self.within(c.sealed, e)
                self.within(c.ends, e)
            self.within(c.final, (0, 0), 1, 0)
            for method in (c.record, c.parts, c.editions):
                self.within(method)

    def test_a_cluster_with_a_long_story(self):
        c = Cluster(((1,) * 40, tuple((x, x + 1) for x in range(39)), 20), ZERO)
        c.begin(0)
        begin = perf_counter()
        for value in range(300):
            c.put(value % 40, value % 1000, value)
        self.assertLess(perf_counter() - begin, 5)
        for step in range(20):
            self.within(c.change, step, (1 + step % 2,) * 40, 20)
            self.within(c.begin, 39 - step)
        self.within(c.share, 0)
        self.within(c.final, (3, 0), 1, 0)
        self.within(c.show, 0, 7)
        c.down(7)
        for word in ("take", "promise"):
            self.within(c.forget, 7)
        c.wipe(7)
        c.up(7)
        self.within(c.restore, 7, 8)

    def test_restores_of_small_nets(self):
        every = tuple(combinations(range(9), 2))
        for need in (1, 2, 4, 9):
            net = ((HUGE,) * 9, every, need * HUGE)
            restores = [(x, lot) for size in (1, 2, 8) for lot in combinations(range(9), size) for x in range(9) if x not in lot]
            for some in (tuple(restores[:200]), tuple(restores[-200:]), ((0, (1,)),) * 200, ()):
                self.within(harmful, net, ("has", 0, 0, ("one", 1)), some)
                self.within(forgetful, net, some)

    def test_letters(self):
        knows = tuple((e, l, HUGE, HUGE) for e in range(10) for l in range(100))
        row = (HUGE, 999, -HUGE, knows)
        for letters in ((("hear", knows),) * 50, (("hold", (0, 0), (1, 0, 0, ())),) * 2000,
                        (("take", (0, 0), 1, (0,), (row,) * 50),), (("copy", (((0, 0), (0, 0, (), (row,) * 50, 0), (0, 0)),)),),
                        (("take", (0, 0), 1, (0,), ((1, 0, 0, ()),) * 140),) * 400, (BROAD,), BROAD):
            self.within(made_letters, letters)
            self.within(replay, letters)

    def test_records(self):
        knows = tuple((e, l, HUGE, HUGE) for e in range(10) for l in range(90))
        entry = (ALL_40, (0, 0), HUGE, HUGE, 0, -HUGE, knows)
        self.within(covers, entry, entry)
        below = tuple(tuple((0, i, 1, 1) for i in range(j)) for j in range(60))
        for record in ((entry,) * 60, tuple(((0,), (0, j), 0, 1, 0, 0, ()) for j in range(60)),
                       tuple(((0,), (0, j), 0, 1, 0, 0, below[j]) for j in range(60)),
                       tuple(((0,), (0, j), 0, 1, 0, 0, below[j - j % 20]) for j in range(60)), (BROAD,) * 60, BROAD):
            for function in (fork, spread, chains):
                self.within(function, record)
            for net in (((HUGE,) * 9, tuple(combinations(range(9), 2)), HUGE), FULL_40):
                self.within(record_right, net, ZERO, record)

    def test_texts(self):
        lots = [",".join(map(str, lot)) for size in (1, 2, 3) for lot in combinations(range(40), size)]
        row = "1/5/7/" + "+".join(f"0.{l}.1.1" for l in range(1000))
        for text in ("\n" * 200000, " " * 200000, "1" * 200000, "need 1" + "\nhost 0 votes 1" * 9999, "has 0 0 ( " * 20000,
                     "table " + " 0 ".join(lots) + " 0", "table " + "0," * 99990, "hear none\n" * 20000, "share 0\n" * 25000,
                     "hear " + "0.0.1.1+" * 24990 + "\n", f"take 0 0 1 0 {row}|{row}|{row}\n", "copy" + " 0 0 0 0 none none 0 1 1 ;" * 7000,
                     "change 0 " + "1," * 99990 + "1 2", "x" * 300000):
            for function, *others in ((read_net,), (read_rule, FULL_40), (read_story,), (read_letters,)):
                self.within(function, *others, text)
        self.within(net_text, HUGE_40)
        self.within(rule_text, HUGE_40, SEAMS_60)
        self.within(story_text, (("change", 0, (HUGE,) * 100, HUGE, None),) * 20)
        self.within(letters_text, (("hear", tuple((0, l, HUGE, 1) for l in range(1000))),))
        self.within(letters_text, (("take", (0, 0), 1, (0,), ((1, 0, 7, ()),) * 100),) * 400)

    def test_desks(self):
        names = ["abcdefgh"[x // 8] + "klmnopqr"[x % 8] for x in range(40)]
        for net in (RING_40, CHAIN_40, GRID_40, STAR_40, FULL_40):
            desk = Desk()
            for row in [f"host {name} {'9' * 40}" for name in names] + [f"need {'9' * 40}"]:
                self.within(desk.say, row)
            for a, b in net[1]:
                self.within(desk.say, f"link {names[a]} {names[b]}")
            for row in ("once", "logs", "each 99", "long", "cuts", "captains", "blocks", "packing", "rule", "net", "undo", "redo",
                        "log " + " ".join(names), "works " + " ".join(names), "commands ak", "unseen ak",
                        "seam ak logs " + " ".join(names[1:]), "drop ak", "x" * 2000, " " * 2000, "works " + " ".join(names * 16)):
                self.within(desk.say, row)

    def test_nine_hosts(self):
        votes = tuple(LARGE + x for x in range(9))
        net = (votes, tuple((a, b) for a in range(9) for b in range(a + 1, 9)), 4 * LARGE)
        for function in (lots, working, least_working):
            self.within(function, net)

    def test_large_wrong_things(self):
        thing = (BROAD,) * 2
        for wrong in (BROAD, thing, (thing, 1, 2), ((1, 1), BROAD, 1), ((1, 1), (BROAD,), 1), ((BROAD,), (), 1)):
            self.within(made_net, wrong)
            for function in (kind, round_of, hubs_of, pieces, works, renamed, cut_net, ring_right, packing_right,
                             each, made_rule, is_rule, used, is_right, meets_all):
                self.within(function, FULL_40, wrong)
            for part in (("one", wrong), ("has", wrong, 0, 0), ("has", 0, 0, wrong), ("seam", 0, wrong, 0, 0, 0, 0),
                         ("ring", wrong, wrong, 1, 0), ("ring", ALL_40, wrong, 1, 0), ("table", wrong), (wrong, wrong)):
                self.within(is_rule, FULL_40, part)
            self.within(is_hard, FULL_40, wrong, 0)
            self.within(is_hard, FULL_40, (wrong,), wrong)
            self.within(is_seam, FULL_40, 0, wrong)
            self.within(inner, FULL_40, 0, wrong, wrong)
            self.within(walk, wrong, wrong)
            self.within(hued, 36, wrong, wrong)

    def test_apart_of_many_numbers(self):
        self.within(apart, BROAD[:150000], BROAD[150000:])


if __name__ == "__main__":
    unittest.main()
