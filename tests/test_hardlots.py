"""Lots that are hard to deal, [33], and their judge, [34]."""

import unittest
from itertools import combinations, permutations
from random import Random

from fifthhost.counts import logs
from fifthhost.errors import TooMany
from fifthhost.hardlots import hard, is_hard
from fifthhost.netedits import with_need
from tests.common import (BARE_40, BROAD, DEEP, EMPTY, FULL_40, LARGE, LARGE_40, NET_ERRORS, NO_NUMBERS, NO_TUPLES, ONE,
                          R, RING_40, S, TRIANGLES, Case, all_nets, full_net, hubs_net, linked_net, round_net, slow_logs,
                          slow_working, some_nets)

PAIRS = ((0, 1), (0, 4), (1, 2), (2, 3), (3, 4))


class Hard(Case):

    def right(self, net):
        """The lots alone want as many logs as all, and fewer without any one of them."""
        told = hard(net)
        working = slow_working(net)
        self.assertIs(type(told), tuple)
        self.assertEqual(list(told), [lot for lot in working if lot in told])
        self.assertEqual(slow_logs(told), logs(net))
        for left_out in told:
            self.assertLess(slow_logs([lot for lot in told if lot != left_out]), logs(net))
        for one, two in permutations(told, 2):
            self.assertFalse(set(one) <= set(two))
        self.assertLessEqual(len(told), 35)
        if told:
            self.tells(True, is_hard, net, told, logs(net) - 1)
            self.tells(False, is_hard, net, told, logs(net))
        return told

    def test_examples(self):
        self.tells(PAIRS, hard, R)
        self.tells(((0,), (1,)), hard, ((1, 1), ((0, 1),), 1))
        self.assertEqual(len(self.right(with_need(R, 4))), 1)
        self.assertEqual(self.right(R), PAIRS)

    def test_as_many_logs_as_a_plain_trying_tells(self):
        for many in range(5):
            for net in all_nets(many):
                for votes, need in (((1, 1, 1, 1), 2), ((1, 2, 0, 3), 3)):
                    one = (votes[:many], net[1], need)
                    self.assertEqual(slow_logs(self.right(one)), slow_logs(slow_working(one)))

    def test_other_nets(self):
        for net in some_nets(331, 300, (3, 4, 5, 6)):
            self.right(net)
        for net in some_nets(333, 40, (7,)):
            self.right(net)

    def test_seven_hosts(self):
        for net in (full_net(7), full_net(7, 3), full_net(7, 4), full_net(7, 1), round_net((1,) * 7, 3),
                    round_net((1,) * 7, 2), hubs_net(7, 3), linked_net(7, [(0, x) for x in range(1, 7)], need=2),
                    ((LARGE,) * 7, full_net(7)[1], 3 * LARGE)):
            self.right(net)
        self.assertEqual(len(hard(full_net(7, 4))), 1)

    def test_no_log_at_all(self):
        for net in (EMPTY, ONE, with_need(R, 6), ((0,) * 7, (), 1)):
            self.tells((), hard, net)

    def test_eight_hosts(self):
        for net in (full_net(8), round_net((1,) * 8, 9), ((0,) * 8, (), 1), FULL_40, RING_40, LARGE_40, BARE_40):
            self.refuses(TooMany, len(net[0]), hard, net)


class IsHard(Case):

    def test_examples(self):
        self.tells(True, is_hard, R, PAIRS, 2)
        self.tells(False, is_hard, R, PAIRS, 3)
        self.tells(False, is_hard, R, PAIRS[1:], 2)
        self.tells(False, is_hard, R, (), 0)
        self.tells(False, is_hard, R, ((0, 1), (2,)), 1)
        self.tells(False, is_hard, R, ((0, 1), (0, 1)), 0)
        self.tells(True, is_hard, R, ((2, 3), (0, 1)), 1)

    def test_beside_a_plain_trying(self):
        chance = Random(34)
        for net in some_nets(341, 150, (4, 5, 6, 7)):
            working = slow_working(net)
            some = chance.sample(working, min(len(working), chance.randint(1, 7)))
            wanted = slow_logs(some)
            for k in range(9):
                self.tells(k < wanted, is_hard, net, tuple(some), k)

    def test_in_any_order(self):
        for lots in permutations(PAIRS):
            self.tells(True, is_hard, R, lots, 2)
            self.tells(False, is_hard, R, lots, 3)

    def test_k_of_any_size(self):
        for lots in ((), PAIRS, ((0, 1),)):
            for k in (5, 36, 37, 10 ** 6, LARGE):
                self.tells(False, is_hard, R, lots, k)
        self.tells(True, is_hard, R, ((0, 1),), 0)
        self.tells(False, is_hard, R, ((0, 1),), 1)
        for k in NO_NUMBERS + (-1, -LARGE):
            self.tells(False, is_hard, R, PAIRS, k)

    def test_36_and_37_lots(self):
        nine = tuple(combinations(range(9), 2))
        self.assertEqual(len(nine), 36)
        self.tells(True, is_hard, full_net(9), nine, 6)
        self.tells(False, is_hard, full_net(9), nine, 7)
        self.tells(False, is_hard, full_net(9), nine + ((0, 1, 2),), 0)
        apart = tuple((x,) for x in range(40))
        one = with_need(BARE_40, 1)
        self.tells(True, is_hard, one, apart[:36], 35)
        self.tells(False, is_hard, one, apart[:36], 36)
        self.tells(False, is_hard, one, apart[:37], 0)
        self.tells(False, is_hard, one, apart, 1)

    def test_a_lot_twice(self):
        for index in range(5):
            self.tells(False, is_hard, R, PAIRS + PAIRS[index:index + 1], 2)
            self.tells(False, is_hard, R, PAIRS + PAIRS[index:index + 1], 0)

    def test_forty_hosts(self):
        self.tells(True, is_hard, FULL_40, ((0, 38, 39), (1, 2, 3), tuple(range(4, 30))), 2)
        self.tells(True, is_hard, LARGE_40, (tuple(range(40)),), 0)
        self.tells(False, is_hard, LARGE_40, (tuple(range(39)),), 0)
        self.tells(True, is_hard, hubs_net(40, 3), ((0, 2, 3), (1, 4, 5)), 1)
        lots = tuple((x, x + 1, x + 2) for x in range(36))
        self.tells(True, is_hard, RING_40, lots, 11)
        self.tells(False, is_hard, RING_40, lots, 12)

    def test_what_are_no_working_lots(self):
        for lot in NO_NUMBERS + NO_TUPLES + ((), (0,), (0, 2), (1, 0), (0, 0, 1), (0, True), (False, 1), (0, 1.0), [0, 1],
                                             "01", (0, 5), (-1, 0), (0, (1,)), (0, 1, LARGE), BROAD, DEEP):
            for lots in ((lot,), PAIRS + (lot,), (lot,) + PAIRS):
                self.tells(False, is_hard, R, lots, 0)
                self.tells(False, is_hard, R, lots, 2)
        for lots in NO_NUMBERS + NO_TUPLES + (list(PAIRS), (list(PAIRS),), (0, 1), BROAD, DEEP, (BROAD,) * 2):
            self.tells(False, is_hard, R, lots, 0)
        self.tells(True, is_hard, S, ((0, 1, 2),), 0)
        self.tells(False, is_hard, TRIANGLES, ((0, 3),), 0)

    def test_wrong_nets(self):
        for net, _, _ in NET_ERRORS:
            for lots in ((), ((0,),), None):
                for k in (0, 1, None):
                    self.tells(False, is_hard, net, lots, k)


if __name__ == "__main__":
    unittest.main()
