"""What a rule means, [29], and seams in rules, [30]."""

import unittest
from itertools import combinations
from random import Random

from fifthhost.dealing import log_of
from fifthhost.errors import BadLot, BadRule, NotWorking, TooMany, Unruled
from tests.common import (BARE_40, BROAD, DEEP, FULL_40, LARGE, LARGE_40, R, RING_40, S, TRIANGLES, Case, full_net,
                          linked_net, round_net, slow_lots, slow_working, some_nets)
from tests.rulesets import NO_LOTS, RING_RULE, SEAM_RULE, ZERO, nested_has, rule_with, slow_log, some_rule

OTHER_RING = ("ring", (0, 1, 2, 3, 4), (1, 3), 2, 7)
INNER = ("seam", 2, (3, 4), 2, 1, ("one", 0), ("seam", 2, (0, 1), 3, 0, ("one", 1), ("one", 2)))


class Meaning(Case):

    def logs(self, net, rule, wanted):
        """The rule tells each of the lots its log."""
        for lot, log in wanted.items():
            if log is None:
                self.refuses(Unruled, lot, log_of, net, rule, lot)
            else:
                self.tells(log, log_of, net, rule, lot)

    def as_slow(self, net, rule):
        """Each working lot gets what the words of the document say, all others are refused."""
        working = slow_working(net)
        votes = dict(enumerate(net[0]))
        self.logs(net, rule, {lot: slow_log(votes, rule, set(lot)) for lot in working})

    def test_examples_of_rings_and_tables(self):
        self.logs(R, RING_RULE, {(0, 1): 0, (1, 2): 0, (2, 3): 1, (3, 4): 1, (0, 4): 2, (0, 1, 4): 2, (0, 1, 2, 3, 4): 0})
        self.logs(R, OTHER_RING, {(0, 1): 8, (1, 2): 7, (2, 3): 7, (3, 4): 8})
        self.logs(R, ("has", 1, 0, ("table", (((2, 3), 4),))), {(0, 1): 0, (2, 3): 4, (3, 4): None})
        for rule in (RING_RULE, OTHER_RING, ZERO, ("table", ())):
            self.refuses(NotWorking, (0, 2), log_of, R, rule, (0, 2))
            self.refuses(NotWorking, (0,), log_of, R, rule, (0,))

    def test_examples_of_seams(self):
        self.logs(TRIANGLES, SEAM_RULE, {(3, 4): 0, (2, 3): 0, (1, 2, 3): 1, (0, 1): 1})
        self.logs(TRIANGLES, INNER, {(1, 2, 3): 1, (0, 1, 2, 3, 4): 1})
        more = INNER[:4] + (2,) + INNER[5:]
        self.logs(TRIANGLES, more, {(1, 2, 3): 2, (0, 1, 2, 3, 4): 2})

    def test_one_and_has(self):
        rule = ("has", 3, 5, ("has", 0, 999, ("one", 0)))
        for lot in slow_working(R):
            self.tells(5 if 3 in lot else 999 if 0 in lot else 0, log_of, R, rule, lot)
        self.logs(R, ("has", 0, 1, ("has", 0, 2, ("one", 3))), {(0, 1): 1, (1, 2): 3})
        self.logs(R, nested_has(60), {(0, 1): 0, (1, 2): 0})

    def test_tables(self):
        lots = slow_working(R)
        for lot in lots:
            rule = ("table", tuple((other, index) for index, other in enumerate(lots) if other != lot))
            self.logs(R, rule, {other: None if other == lot else index for index, other in enumerate(lots)})
        # Rows of lots that do not work are of no use, and a lot that lies in another one is another lot.
        self.logs(R, ("table", (((0,), 1), ((0, 1, 2), 2))), {(0, 1): None, (0, 1, 2): 2, (0, 1, 2, 3): None})
        self.refuses(NotWorking, (0,), log_of, R, ("table", (((0,), 1),)), (0,))

    def test_all_stretches_of_rings(self):
        for many in (3, 4, 5, 6):
            net = full_net(many, need=1)
            for hosts in (tuple(range(many)), (2, 0, 1, *range(3, many))[::-1]):
                for size in range(1, many + 1):
                    for starts in list(combinations(range(many), size))[::many - 2]:
                        self.as_slow(net, ("ring", hosts, starts, (size + 1) // 2, 3))
                        self.as_slow(net, ("ring", hosts, starts, size, 0))

    def test_rings_of_some_hosts_only(self):
        net = full_net(5, need=1)
        rule = ("ring", (1, 4, 2), (0, 1, 2), 3, 0)
        self.logs(net, rule, {(1,): 0, (4,): 1, (2,): 2, (1, 4): 0, (2, 4): 1, (1, 2): 2, (1, 2, 4): 0, (0,): None,
                              (0, 1): None, (1, 3, 4): None, (0, 1, 2, 4): None, (0, 1, 2, 3, 4): None})
        self.logs(net, ("ring", (0, 1, 2, 3), (0, 2), 2, 0), {(0, 2): None, (1, 3): None, (0, 1, 3): 1, (0, 2, 3): 1})

    def test_logs_above_999(self):
        rule = ("ring", (0, 1, 2, 3, 4), (0, 1, 2, 3, 4), 5, 999)
        self.logs(R, rule, {(0, 1): 999, (1, 2): 1000, (0, 4): 1003})
        wide = ("ring", tuple(range(40)), tuple(range(40)), 40, 999)
        self.tells(1038, log_of, RING_40, wide, (0, 1, 39))

    def test_stretches_of_forty_hosts(self):
        rule = ("ring", tuple(range(40)), tuple(range(0, 40, 3)), 7, 1)
        for begin in range(40):
            for size in (3, 4, 39, 40):
                lot = tuple(sorted((begin + step) % 40 for step in range(size)))
                at = 0 if size == 40 else begin
                self.tells(1 + max(place for place in range(14) if 3 * place <= at) * 7 // 14, log_of, RING_40, rule, lot)

    def test_all_hosts_of_a_ring_begin_at_0(self):
        for starts, log in (((0,), 0), ((1,), 0), ((0, 2), 0), ((2, 3), 1), ((1, 2, 4), 2)):
            self.logs(R, ("ring", (3, 4, 0, 1, 2), starts, len(starts), 0), {(0, 1, 2, 3, 4): log})

    def test_seams_with_and_without_their_host(self):
        net = full_net(5, need=1)
        rule = ("seam", 2, (3, 4), 2, 0, ("one", 0), ("one", 1))
        # Without the host 2 the whole lot is asked of the first rule, whatever else it has.
        self.logs(net, rule, {(3,): 0, (0, 1, 3, 4): 0, (2,): 1, (2, 3): 0, (0, 2, 3): 1, (0, 1): 1, (0, 1, 2, 3, 4): 1})
        asked = ("seam", 2, (3, 4), 2, 0, ("table", (((3,), 0), ((0, 3), 2), ((2, 3), 1))), ("table", (((0, 2), 3),)))
        self.logs(net, asked, {(3,): 0, (2, 3): 1, (0, 3): 2, (0, 2): 3, (0, 2, 3): 3, (0, 2, 3, 4): 3, (4,): None,
                               (2,): None, (0,): None, (1, 2, 4): None})

    def test_the_votes_that_the_first_rule_is_asked_with(self):
        # The seam within asks the votes of the host 2 with that of the host 0, which are z - 1 and 1, or 0 and 1.
        for z, lent in ((2, 1), (3, 2), (LARGE, LARGE - 1)):
            for least in (0, 1, 2, 3, 4, LARGE - 1, LARGE, LARGE + 1):
                inner = ("seam", 2, (3,), least, 0, ("one", 5), ("one", 6))
                rule = ("seam", 2, (0, 3), z, 0, inner, ("one", 7))
                self.tells(5 if least > 1 + lent else 6, log_of, full_net(5), rule, (0, 2, 3))
        for z in (0, 1, 2, LARGE):
            # No host of these lots is the seam's own, so the lots stay as they are.
            rule = ("seam", 2, (3,), z, 0, ("seam", 0, (3,), 2, 0, ("one", 5), ("one", 6)), ("one", 7))
            self.logs(full_net(5), rule, {(0, 3): 5, (0, 1, 3): 6, (1, 3): 5, (0, 1): 7})

    def test_seams_with_z_of_0(self):
        rule = ("seam", 2, (3, 4), 0, 0, ("one", 0), ("one", 1))
        self.logs(full_net(5, need=1), rule, {(3,): 0, (0, 3): 0, (2, 3): 1, (2, 3, 4): 1, (2,): 1, (0, 1): 1})
        net = ((0, 1, 0), ((0, 1), (1, 2)), 1)
        rule = ("seam", 1, (2,), 0, 3, ("one", 0), ("seam", 0, (2,), 0, 0, ("one", 1), ("one", 2)))
        self.logs(net, rule, {(1, 2): 2, (0, 1, 2): 2, (1,): 2})

    def test_votes_below_and_at_z(self):
        net = ((1, 2, 3, 0, 5), tuple(combinations(range(5), 2)), 1)
        for z in range(9):
            rule = ("seam", 2, (4,), z, 0, ("one", 0), ("one", 1))
            for lot in slow_working(net):
                outside = sum(net[0][x] for x in lot if x != 4)
                first = 4 in lot and (2 not in lot or outside < z)
                self.tells(0 if first else 1, log_of, net, rule, lot)

    def test_votes_hold_within_until_a_seam_changes_them_again(self):
        net = full_net(6)
        ask = ("seam", 0, (5,), 4, 0, ("one", 0), ("one", 1))
        # Of (0, 5) the seam asks whether the host 0 has less than 4 votes.
        for more, log in ((0, 0), (1, 0), (2, 0), (3, 1), (LARGE, 1)):
            self.logs(net, ("seam", 0, (4,), 0, more, ZERO, ask), {(0, 5): log})
            self.logs(net, ("seam", 0, (4,), 0, more, ZERO, ("seam", 1, (3,), 0, LARGE, ZERO, ask)), {(0, 5): log})
            self.logs(net, ("seam", 0, (4,), 0, more, ZERO, ("has", 1, 5, ask)), {(0, 5): log, (0, 1): 5})
            self.logs(net, ("seam", 0, (4,), 0, 1, ZERO, ("seam", 0, (3,), 0, more, ZERO, ask)),
                      {(0, 5): 1 if more >= 2 else 0})
        # What the first rule is asked with does not matter to the second one.
        self.logs(net, ("seam", 0, (5,), 2, 0, ask, ask), {(0, 5): 0, (0, 1, 5): 1, (0, 1): 1})
        twice = ("seam", 0, (4, 5), 5, 0, ("seam", 0, (5,), 3, 0, ("one", 0), ("one", 1)), ("one", 2))
        self.logs(net, twice, {(0, 5): 1, (4, 5): 0, (0, 1, 2, 3, 5): 1})

    def test_whether_a_lot_works_is_asked_of_the_net_alone(self):
        rule = ("seam", 1, (2,), 0, LARGE, ZERO, ("one", 3))
        self.refuses(NotWorking, (1,), log_of, S, rule, (1,))
        self.refuses(NotWorking, (0, 2), log_of, S, rule, (0, 2))
        self.tells(3, log_of, S, rule, (0, 1, 2))

    def test_other_rules_and_nets(self):
        chance = Random(29)
        for net in some_nets(31, 500, (2, 3, 4, 5, 6)):
            for depth in (0, 1, 2, 5):
                self.as_slow(net, some_rule(chance, len(net[0]), depth))

    def test_seams_within_seams(self):
        chance = Random(30)
        for net in (full_net(5), full_net(6, need=1), round_net((2, 1, 3, 1, 2), 2), TRIANGLES,
                    ((LARGE, 1, LARGE, 0, 2), tuple(combinations(range(5), 2)), LARGE)):
            for depth in (1, 2, 3, 4) * 40:
                self.as_slow(net, some_rule(chance, len(net[0]), depth))

    def test_large_rules_and_votes(self):
        every = tuple(range(40))
        self.tells(0, log_of, LARGE_40, rule_with(400), every)
        self.tells(1, log_of, LARGE_40, ("seam", 0, every[1:], LARGE, 0, ZERO, ("one", 1)), every)
        self.tells(0, log_of, LARGE_40, ("seam", 0, every[1:], LARGE + 1, 0, ZERO, ("one", 1)), every)

    def test_errors_in_their_order(self):
        wrong = ("has", 5, 0, ZERO)
        self.refuses(BadRule, (), log_of, R, wrong, None)
        self.refuses(TooMany, 401, log_of, R, rule_with(401), None)
        for lot in NO_LOTS:
            if type(lot) is not tuple:
                self.refuses(BadLot, -1, log_of, R, ("table", ()), lot)
        for lot, index in (((0, 0), 1), ((1, 0), 1), ((0, 5), 1), ((True,), 0), ((0, 1, 1.0), 2), (BROAD, 5), (DEEP, 0)):
            self.refuses(BadLot, index, log_of, R, ("table", ()), lot)
        for lot in ((), (0,), (0, 2), (1, 4)):
            self.refuses(NotWorking, lot, log_of, R, ("table", ()), lot)
        self.refuses(Unruled, (0, 1), log_of, R, ("table", ()), (0, 1))

    def test_the_lot_that_was_handed_in_is_told(self):
        rule = ("seam", 2, (3, 4), 2, 0, ("table", ()), ("table", ()))
        for lot in slow_working(TRIANGLES):
            self.refuses(Unruled, lot, log_of, TRIANGLES, rule, lot)

    def test_forty_hosts(self):
        self.tells(7, log_of, FULL_40, ("has", 39, 7, ZERO), (0, 38, 39))
        self.refuses(NotWorking, (39,), log_of, BARE_40, ("has", 39, 7, ZERO), (39,))
        line = linked_net(40, [(x, x + 1) for x in range(39)], need=2)
        lots = tuple(((x, x + 1), x) for x in range(39))
        for lot, log in lots:
            self.tells(log, log_of, line, ("table", lots), lot)
        self.refuses(Unruled, (0, 1, 2), log_of, line, ("table", lots), (0, 1, 2))

    def test_all_lots_are_asked(self):
        net = full_net(4, need=1)
        self.as_slow(net, ("table", tuple((lot, index) for index, lot in enumerate(slow_lots(4)))))


if __name__ == "__main__":
    unittest.main()
