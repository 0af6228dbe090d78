"""A right rule, [31]."""

import unittest
from itertools import combinations
from random import Random

from fifthhost.counts import logs
from fifthhost.dealing import log_of
from fifthhost.errors import TooMany
from fifthhost.judged import is_right
from fifthhost.making import rule_of
from fifthhost.netedits import beside, renamed, with_need, with_votes, without_link
from fifthhost.rules import made_rule
from tests.common import (BARE_40, EMPTY, FULL_40, LARGE, LARGE_40, ONE, R, RING_40, RINGS, S, TAILED, TEN, TRIANGLES,
                          Case, all_nets, chained, full_net, hubs_net, linked_net, plain, round_net, slow_logs,
                          slow_working, some_nets)
from tests.rulesets import parts_of


def some_working(net, seed, many):
    """Working lots of a large net, each grown from one host on by hosts that are linked to it."""
    chance = Random(seed)
    linked = {x: [] for x in range(len(net[0]))}
    for a, b in net[1]:
        linked[a].append(b)
        linked[b].append(a)
    for _ in range(many):
        lot = [chance.randrange(len(net[0]))]
        spare = chance.choice((0, 0, 0, 1, 3, 10))
        while sum(net[0][x] for x in lot) < net[2] or spare:
            spare = max(0, spare - (sum(net[0][x] for x in lot) >= net[2]))
            edge = sorted({y for x in lot for y in linked[x]} - set(lot))
            if not edge:
                break
            lot.append(chance.choice(edge))
        if sum(net[0][x] for x in lot) >= net[2]:
            yield tuple(sorted(lot))


class Making(Case):

    def made(self, net):
        """A rule of the net that is within all bounds, and the same again."""
        rule = rule_of(net)
        self.assertTrue(plain(rule))
        self.assertIs(made_rule(net, rule), rule)
        self.assertEqual(rule_of(net), rule)
        return rule

    def right_small(self, net):
        """Each working lot of a small net gets a log below logs, and any two that are apart unlike ones."""
        rule = self.made(net)
        told = {lot: log_of(net, rule, lot) for lot in slow_working(net)}
        self.assertTrue(set(told.values()) <= set(range(logs(net))), net)
        for one, two in combinations(told, 2):
            self.assertTrue(set(one) & set(two) or told[one] != told[two], (net, one, two))

    def right_large(self, net, seed=1, many=150):
        """As right_small, of some of the working lots of a net of any size."""
        rule = self.made(net)
        told = {lot: log_of(net, rule, lot) for lot in some_working(net, seed, many)}
        self.assertTrue(set(told.values()) <= set(range(logs(net))))
        for one, two in combinations(told, 2):
            self.assertTrue(told[one] != told[two] or set(one) & set(two), (one, two))

    def test_examples(self):
        for net in (R, TRIANGLES, with_need(R, 6), with_need(R, 4), S, EMPTY, ONE):
            self.right_small(net)
        self.assertTrue(is_right(R, rule_of(R)))
        self.assertTrue(is_right(with_need(R, 6), rule_of(with_need(R, 6))))

    def test_all_links_of_few_hosts(self):
        for many in range(5):
            for net in all_nets(many):
                for votes, need in (((1, 1, 1, 1), 1), ((1, 1, 1, 1), 2), ((1, 2, 0, 3), 3), ((2, 2, 1, 1), 4)):
                    self.right_small((votes[:many], net[1], need))
        for net in list(all_nets(5))[::7]:
            for votes, need in (((1, 1, 1, 1, 1), 2), ((2, 0, 1, 3, 1), 3)):
                self.right_small((votes, net[1], need))

    def test_kinds_of_blocks(self):
        for need in range(1, 9):
            for net in (round_net((1,) * 7, need), round_net((1, 2, 0, 3, 1, 2), need), full_net(4, need), full_net(5, need),
                        full_net(6, need), full_net(7, need), hubs_net(5, need), hubs_net(7, need, True), with_need(TEN, need),
                        with_need(TAILED, need), with_need(RINGS, need), linked_net(7, [(0, x) for x in range(1, 7)], need=need),
                        without_link(full_net(6, need), 0, 1), ((3, 1, 1, 1, 1, 2), full_net(6)[1], need)):
                self.right_small(net)

    def test_other_nets(self):
        for net in some_nets(311, 250, (4, 5, 6, 7, 8)):
            try:
                logs(net)
            except TooMany as refused:
                self.refuses(TooMany, refused.what, rule_of, net)
                continue
            self.right_small(net)

    def test_as_few_logs_as_a_plain_trying_tells(self):
        for net in some_nets(313, 100, (3, 4, 5)):
            rule = rule_of(net)
            told = {log_of(net, rule, lot) for lot in slow_working(net)}
            self.assertLessEqual(len(told), slow_logs(slow_working(net)))

    def test_thresholds_of_0_and_lent_votes(self):
        for net in (TAILED, ((5, 0), (), 3), ((0, 2, 2, 0, 1), ((0, 1), (0, 2), (1, 2), (2, 3), (3, 4)), 3),
                    ((0, 0, 0, 1, 2, 3, 1, 1), ((0, 1), (0, 2), (1, 2), (2, 3), (3, 4), (4, 5), (5, 6), (6, 7)), 3),
                    ((1, 0, 1, 2, 0, 1, 1), ((0, 1), (0, 2), (1, 2), (2, 3), (3, 4), (3, 6), (4, 5), (5, 6)), 3)):
            for need in range(1, 6):
                self.right_small(with_need(net, need))

    def test_forty_hosts_of_many_blocks(self):
        nets = [chained([full_net(7)] * 6), chained([hubs_net(14)] * 3), chained([full_net(4)] * 13), chained([R] * 9),
                chained([hubs_net(14), full_net(7), RINGS, R]), chained([TEN[:2] + (2,)] * 4), RING_40, BARE_40,
                chained([hubs_net(5), full_net(5)] * 4), linked_net(40, [(x, x + 1) for x in range(39)]),
                chained([full_net(3)] * 19), linked_net(40, [(x // 2, x) for x in range(1, 40)]),
                linked_net(40, [(x // 3, x) for x in range(1, 40)]), beside(beside(full_net(7), RINGS), hubs_net(14))]
        for seed, net in enumerate(nets):
            for need in (1, 2, 3, 5, 8, 13):
                self.right_large(with_need(net, need), seed)
                some = (tuple((x * x + 3) % 4 for x in range(len(net[0]))), net[1], need)
                self.right_large(renamed(some, tuple(range(len(net[0])))[::-1]), seed)

    def test_bounds_of_parts_and_paths(self):
        # Rows and stars of which many hosts, all, or all but a few have the need alone want the longest rules.
        for links in ([(x, x + 1) for x in range(39)], [(0, x) for x in range(1, 40)], [], [(x // 2, x) for x in range(1, 40)],
                      [(x, x + 1) for x in range(0, 39, 2)], [(x, x + d) for x in range(0, 38, 2) for d in (1, 2)]):
            for votes in ((2,) * 40, (1, 2) * 20, (1, 1, 2) * 13 + (1,), (1,) * 40, (0, 1) * 20, (2, 0, 1, 0) * 10):
                for need in (1, 2, 3, 4):
                    rule = self.made(linked_net(40, links, votes, need))
                    rows = list(parts_of(rule))
                    self.assertLessEqual(len(rows), 400)
                    self.assertLessEqual(max(len(path) for path, _ in rows), 60)

    def test_large_votes(self):
        for net in (R, TRIANGLES, TAILED, full_net(6, 3), hubs_net(6, 3)):
            large = (tuple(votes * LARGE + x for x, votes in enumerate(net[0])), net[1], net[2] * LARGE)
            self.right_small(large)
            self.right_small(with_votes(large, 0, 3 * large[2]))
        for net in (RING_40, chained([full_net(7)] * 6), chained([TEN[:2] + (2,)] * 4)):
            self.right_large((tuple(LARGE + x * x for x in range(len(net[0]))), net[1], 3 * LARGE))

    def test_no_lot_works(self):
        for net in (with_need(R, 6), with_need(RING_40, 41), EMPTY, ONE, ((0,) * 40, (), 1)):
            self.made(net)

    def test_too_many_as_logs(self):
        for net, hosts in ((full_net(8), 8), (FULL_40, 40), (LARGE_40, 40), (hubs_net(15), 15), (hubs_net(40), 40),
                           (chained([full_net(9), full_net(8)]), 8), (chained([hubs_net(15), full_net(16)]), 15),
                           (full_net(8, need=100), 8), (full_net(8, need=1), 8)):
            self.refuses(TooMany, hosts, rule_of, net)
        self.right_large(hubs_net(14))
        self.right_large(chained([full_net(7), hubs_net(14)]))


if __name__ == "__main__":
    unittest.main()
