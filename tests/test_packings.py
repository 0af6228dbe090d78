"""Packings, [21]."""

import unittest
from itertools import combinations, permutations

from fifthhost.counts import once
from fifthhost.errors import TooMany
from fifthhost.netedits import beside, renamed, with_need, with_votes, without_link
from fifthhost.packings import packing, packing_right
from tests.common import (BARE_40, BROAD, DEEP, EMPTY, FULL_40, LARGE, LARGE_40, NAN, NET_ERRORS, NO_NUMBERS,
                          NO_TUPLES, ONE, R, RING_40, RINGS, S, TAILED, TEN, TRIANGLES, Case, all_nets, chained,
                          full_net, hubs_net, linked_net, round_net, slow_hangs, slow_once, slow_working, some_nets)


def slow_right(net, lots):
    """Whether lots of hosts work and are two by two apart."""
    if any(sum(net[0][x] for x in lot) < net[2] or not slow_hangs(net, lot) for lot in lots):
        return False
    return all(not set(one) & set(two) for one, two in combinations(lots, 2))


class Packings(Case):

    def packed(self, net, many):
        """A packing of so many lots is told, in order, which is right, also in any other order; and the same again."""
        lots = packing(net)
        self.assertEqual(len(lots), many)
        self.assertEqual(list(lots), sorted(lots, key=lambda lot: (len(lot), lot)))
        for lot in lots:
            self.assertEqual(lot, tuple(sorted(set(lot))))
            self.assertTrue(all(type(x) is int and 0 <= x < len(net[0]) for x in lot))
        self.assertTrue(slow_right(net, lots))
        for other in (lots, lots[::-1], lots[1:] + lots[:1], lots[1:]):
            self.tells(True, packing_right, net, other)
        self.tells(lots, packing, net)

    def test_examples(self):
        self.packed(R, 2)
        self.tells(True, packing_right, R, ((2, 3), (0, 1, 4)))
        for lots in (((0, 1), (1, 2)), ((0, 1), (0, 1)), ((0,),), ((0, 2),), []):
            self.tells(False, packing_right, R, lots)

    def test_examples_of_the_two_numbers(self):
        for net, many in ((TRIANGLES, 2), (RINGS, 4), (TAILED, 3), (TEN, 4), (S, 1), (EMPTY, 0), (ONE, 0),
                          (full_net(5), 2), (full_net(7), 3), (round_net((1,) * 7, 3), 2),
                          (round_net((3, 1, 2, 2, 1, 3), 4), 3)):
            self.packed(net, many)

    def test_none_works(self):
        for net in (EMPTY, ONE, BARE_40, with_need(RING_40, 41), with_need(full_net(7), LARGE), hubs_net(14, 15)):
            self.tells((), packing, net)

    def test_one_or_all(self):
        self.tells((tuple(range(40)),), packing, with_need(RING_40, 40))
        self.tells((tuple(range(14)),), packing, hubs_net(14, 14))
        self.tells(tuple((x,) for x in range(40)), packing, with_need(BARE_40, 1))
        self.tells(tuple((x,) for x in range(40)), packing, with_need(RING_40, 1))

    def test_every_small_net(self):
        for many in range(5):
            for net in all_nets(many):
                for votes, need in (((1, 1, 1, 1), 2), ((1, 2, 0, 3), 3), ((2, 2, 1, 1), 4), ((4, 3, 2, 1), 4)):
                    one = (votes[:many], net[1], need)
                    self.packed(one, slow_once(slow_working(one)))

    def test_other_nets(self):
        for net in some_nets(211, 1000, (5, 6, 7, 8, 9)):
            try:
                many = once(net)
            except TooMany:
                continue
            self.packed(net, many)

    def test_lots_that_reach_through_cuts(self):
        # In a row each lot joins what several blocks hold, and a star has just one lot around its midst.
        self.packed(linked_net(40, [(x, x + 1) for x in range(39)], need=7), 5)
        self.packed(linked_net(40, [(0, x) for x in range(1, 40)], need=7), 1)
        self.packed(linked_net(40, [(x, 39) for x in range(39)], need=40), 1)
        self.packed(((1, 5) * 20, tuple((x, x + 1) for x in range(39)), 6), 20)

    def test_forty_hosts(self):
        self.packed(RING_40, 13)
        self.packed(without_link(RING_40, 6, 7), 13)
        self.packed(chained([R] * 9), 18)
        for parts in ([full_net(7)] * 6, [hubs_net(14)] * 3, [full_net(4)] * 13, [hubs_net(14), full_net(7), RINGS, R],
                      [TEN[:2] + (2,)] * 4):
            net = chained(parts)
            for need in (1, 2, 3, 5, 8, 13, 20, 40):
                some = (tuple((x * x + 3) % 4 for x in range(len(net[0]))), net[1], need)
                for one in (with_need(net, need), some, renamed(some, tuple(range(len(net[0])))[::-1])):
                    self.packed(one, once(one))
        self.packed(beside(beside(full_net(7), RINGS), hubs_net(14)), 3 + 4 + 2)

    def test_large_numbers(self):
        for net in (R, RINGS, TEN, TAILED, full_net(7, 3), hubs_net(12, 4), chained([full_net(7)] * 6)):
            large = (tuple(votes * LARGE for votes in net[0]), net[1], net[2] * LARGE)
            self.packed(large, once(net))
            self.packed(with_votes(large, 0, 3 * large[2]), once(with_votes(net, 0, 3 * net[2])))

    def test_blocks_that_are_too_large(self):
        for net, hosts in ((full_net(8), 8), (FULL_40, 40), (LARGE_40, 40), (hubs_net(15), 15),
                           (chained([full_net(9), full_net(8)]), 8), (chained([hubs_net(15), full_net(16)]), 15)):
            self.refuses(TooMany, hosts, packing, net)


class PackingRight(Case):

    def test_all_lots_of_small_nets(self):
        for net in (R, S, TRIANGLES, with_need(S, 3), full_net(4)):
            lots = [lot for size in range(4) for lot in combinations(range(len(net[0])), size)]
            for many in range(3):
                for some in permutations(lots, many):
                    self.tells(() not in some and slow_right(net, some), packing_right, net, some)

    def test_however_many(self):
        self.tells(True, packing_right, R, ())
        self.tells(True, packing_right, EMPTY, ())
        self.tells(True, packing_right, R, ((1, 2),))
        self.tells(True, packing_right, with_need(BARE_40, 1), tuple((x,) for x in range(39, -1, -1)))
        self.tells(True, packing_right, RING_40, (tuple(range(40)),))

    def test_told_for_every_net(self):
        self.tells(True, packing_right, FULL_40, ((1, 2, 3), (0, 4, 39)))
        self.tells(False, packing_right, FULL_40, ((0, 39), (1, 2, 3)))
        self.tells(True, packing_right, hubs_net(40, 3), ((0, 2, 3), (1, 4, 5, 6, 39)))
        self.tells(False, packing_right, hubs_net(40, 3), ((0, 2, 3), (4, 5, 6, 39)))
        self.tells(True, packing_right, LARGE_40, (tuple(range(40)),))
        self.tells(False, packing_right, LARGE_40, (tuple(range(39)),))

    def test_what_is_no_packing(self):
        wrong = NO_NUMBERS + NO_TUPLES + ((BROAD,), (BROAD, BROAD), (DEEP, DEEP))
        for lots in wrong:
            if lots != ():
                self.tells(False, packing_right, R, lots)
                self.tells(False, packing_right, EMPTY, lots)
        for lot in wrong + ((1, 0), (0, 0, 1), (0, True), (False, 1), (0, 1.0), (0.0, 1.0), [0, 1], "01", (0, "1"),
                            (0, 5), (-1, 0), (0, NAN), (0, (1,)), (0, [1]), (0, 1, LARGE), ()):
            for lots in ((lot,), ((2, 3), lot), (lot, (2, 3))):
                self.tells(False, packing_right, R, lots)
        for lots in ([(0, 1)], [[0, 1]], [(0, 1), (2, 3)], ((0, 1), [2, 3]), (0, 1), ((0, 1), None),
                     ((0, 1),) * 100000):
            self.tells(False, packing_right, R, lots)

    def test_wrong_nets(self):
        for net, _, _ in NET_ERRORS:
            for lots in ((), ((0,),), None):
                self.tells(False, packing_right, net, lots)


if __name__ == "__main__":
    unittest.main()
