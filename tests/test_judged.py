"""What a rule does to all lots that work, [32]."""

import unittest
from itertools import combinations
from random import Random

from fifthhost.errors import BadRule, TooMany, Unruled
from fifthhost.judged import clash, is_right, used
from fifthhost.making import rule_of
from fifthhost.netedits import with_need
from tests.common import (BARE_40, EMPTY, FULL_40, LARGE, NET_ERRORS, ONE, R, RING_40, S, TRIANGLES, Case, full_net,
                          linked_net, round_net, slow_working, some_nets)
from tests.rulesets import RING_RULE, SEAM_RULE, ZERO, rule_with, slow_log, some_rule, wrong_parts

TWO_LOGS = ("ring", (0, 1, 2, 3, 4), (0, 1, 2, 3, 4), 2, 0)


def slow_clash(told):
    """What clash tells of lots and their logs, by trying all pairs."""
    for lot, log in told.items():
        if log is None:
            return (lot,)
    for one, two in combinations(told, 2):
        if not set(one) & set(two) and told[one] == told[two]:
            return (one, two)
    return None


class Judged(Case):

    def as_slow(self, net, rule):
        """All three functions tell what a plain listing of the working lots does."""
        votes = dict(enumerate(net[0]))
        told = {lot: slow_log(votes, rule, set(lot)) for lot in slow_working(net)}
        wanted = slow_clash(told)
        self.tells(wanted, clash, net, rule)
        self.tells(wanted is None, is_right, net, rule)
        if wanted is not None and len(wanted) == 1:
            self.refuses(Unruled, wanted[0], used, net, rule)
        else:
            self.tells(tuple(sorted(set(told.values()))), used, net, rule)
        return wanted

    def test_examples(self):
        self.tells((0, 1, 2), used, R, RING_RULE)
        self.tells(None, clash, R, RING_RULE)
        self.tells(True, is_right, R, RING_RULE)
        self.tells(((0, 1), (2, 3)), clash, R, TWO_LOGS)
        self.tells(False, is_right, R, TWO_LOGS)
        self.tells(((0, 4),), clash, R, ("table", (((0, 1), 0),)))
        self.refuses(Unruled, (0, 4), used, R, ("table", (((0, 1), 0),)))
        self.tells(((0, 1), (2, 3)), clash, R, ("one", 7))
        self.tells((7,), used, R, ("one", 7))
        self.tells(None, clash, TRIANGLES, SEAM_RULE)
        self.tells((0, 1), used, TRIANGLES, SEAM_RULE)

    def test_no_working_lot(self):
        for net in (with_need(R, 6), EMPTY, ONE, ((0,) * 9, (), 1)):
            for rule in (ZERO, ("one", 999), ("table", ())):
                self.tells((), used, net, rule)
                self.tells(None, clash, net, rule)
                self.tells(True, is_right, net, rule)

    def test_the_first_unruled_lot_ahead_of_a_clash(self):
        lots = slow_working(R)
        for left_out in lots:
            rule = ("table", tuple((lot, 0) for lot in lots if lot != left_out))
            self.tells((left_out,), clash, R, rule)
            self.refuses(Unruled, left_out, used, R, rule)
            self.tells(False, is_right, R, rule)
        rule = ("table", tuple((lot, 0) for lot in lots if lot not in ((1, 2, 3), (3, 4), (0, 1, 2, 3, 4))))
        self.tells(((3, 4),), clash, R, rule)

    def test_the_first_pair_that_clashes(self):
        # In order the lots are 01, 04, 12, 23, 34, and so on; of all pairs that clash the first one is told.
        lots = slow_working(R)
        pairs = [(one, two) for one, two in combinations(lots, 2) if not set(one) & set(two)]
        for one, two in pairs:
            rule = ("table", tuple((lot, 0 if lot in (one, two) else 1 + index) for index, lot in enumerate(lots)))
            self.tells((one, two), clash, R, rule)
            self.tells(False, is_right, R, rule)
        for one, two in combinations(pairs, 2):
            logs = {lot: 10 + index for index, lot in enumerate(lots)}
            logs[one[0]] = logs[one[1]] = 0
            logs[two[0]] = logs[two[1]]
            self.as_slow(R, ("table", tuple(logs.items())))

    def test_right_rules(self):
        for net in some_nets(321, 150, (3, 4, 5, 6, 7)):
            self.assertIsNone(self.as_slow(net, rule_of(net)))

    def test_other_rules(self):
        chance = Random(32)
        told = [self.as_slow(net, some_rule(chance, len(net[0]), depth))
                for net in some_nets(323, 250, (3, 4, 5, 6)) for depth in (0, 1, 3)]
        self.assertEqual({wanted and len(wanted) for wanted in told}, {None, 1, 2})

    def test_rules_by_members_alone(self):
        for net in (R, TRIANGLES, full_net(4), full_net(6, 3), round_net((1,) * 8, 3), S):
            for x in range(len(net[0])):
                self.as_slow(net, ("has", x, 0, ("one", 1)))
                self.as_slow(net, ("has", x, 1, ("has", 0, 1, ("one", 0))))

    def test_nine_and_ten_hosts(self):
        nine = full_net(9, 4)
        self.tells(((0, 1, 2, 3), (4, 5, 6, 7)), clash, nine, ZERO)
        self.tells((0,), used, nine, ZERO)
        self.tells(None, clash, full_net(9, 5), ZERO)
        self.tells(True, is_right, full_net(9, 5), ZERO)
        self.tells(tuple(range(9)), used, ((1,) * 9, (), 1), rule_of(((1,) * 9, (), 1)))
        for net in (full_net(10, 6), FULL_40, RING_40, BARE_40, ((0,) * 10, (), 1)):
            many = len(net[0])
            for rule in (ZERO, ("table", ())):
                self.refuses(TooMany, many, used, net, rule)
                self.refuses(TooMany, many, clash, net, rule)
                self.tells(False, is_right, net, rule)

    def test_errors_in_their_order(self):
        for net in (R, EMPTY):
            for function in (used, clash):
                self.refuses(BadRule, (), function, net, ("has", 9, 0, ZERO))
                self.refuses(TooMany, 401, function, ((0,) * 10, (), 1), ("has", 0, 0, rule_with(400)))
        for function in (used, clash):
            self.refuses(BadRule, (3,), function, FULL_40, ("has", 9, 0, None))
        self.refuses(TooMany, 10, used, ((1,) * 10, (), 1), ("table", ()))

    def test_nothing_is_refused_by_the_judge(self):
        for part in list(wrong_parts())[::5]:
            self.tells(False, is_right, R, part)
        for net, _, _ in NET_ERRORS:
            for rule in (ZERO, None):
                self.tells(False, is_right, net, rule)
        self.tells(False, is_right, R, rule_with(401))
        self.tells(False, is_right, FULL_40, None)

    def test_large_votes(self):
        net = (tuple(LARGE + x for x in range(9)), full_net(9)[1], 4 * LARGE + 6)
        self.tells(((0, 1, 2, 3), (4, 5, 6, 7)), clash, net, ZERO)
        seam = ("seam", 0, (1,), LARGE + 1, 0, ("one", 0), ("one", 1))
        line = linked_net(2, [(0, 1)], (LARGE, 1), LARGE)
        self.tells((0, 1), used, line, seam)
        self.tells(None, clash, line, seam)


if __name__ == "__main__":
    unittest.main()
