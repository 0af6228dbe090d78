"""Hues, [18]."""

import unittest
from itertools import combinations
from random import Random

from fifthhost.errors import BadMany, BadPairs
from fifthhost.hues import fewest, hued
from fifthhost.listing import least_working
from tests.common import (BROAD, LARGE, NO_NUMBERS, NO_TUPLES, Case, apart_pairs, full_net, slow_fewest, some_nets)

RING_OF_5 = ((0, 1), (0, 4), (1, 2), (2, 3), (3, 4))


def all_pairs(many):
    """All pairs of so many points."""
    return tuple(combinations(range(many), 2))


def apart_of(many, size):
    """The lots of one size of so many hosts as points, with a pair for each two that are apart."""
    return apart_pairs(list(combinations(range(many), size)))


class Hues(Case):

    def right(self, many, pairs, wanted):
        """fewest tells what is wanted, hued tells right hues from there on, and None for fewer."""
        self.tells(wanted, fewest, many, pairs)
        for k in (0, wanted - 2, wanted - 1):
            if 0 <= k < wanted:
                self.tells(None, hued, many, pairs, k)
        for k in (wanted, wanted + 1, wanted + 40, LARGE):
            hues = hued(many, pairs, k)
            self.assertEqual((type(hues), len(hues)), (tuple, many))
            self.assertTrue(all(type(hue) is int and 0 <= hue < k for hue in hues))
            for a, b in pairs:
                self.assertNotEqual(hues[a], hues[b])
            self.tells(hues, hued, many, pairs, k)

    def test_examples(self):
        self.right(5, RING_OF_5, 3)
        self.tells(None, hued, 5, RING_OF_5, 2)
        self.tells(1, fewest, 3, ())
        self.tells(0, fewest, 0, ())
        self.tells((), hued, 0, (), 0)
        self.tells(None, hued, 1, (), 0)
        self.refuses(BadPairs, 0, fewest, 4, ((0, 4),))
        self.refuses(BadMany, 37, hued, 37, None, -1)

    def test_few_points_and_no_pairs(self):
        self.right(0, (), 0)
        for many in (1, 2, 9, 35, 36):
            self.right(many, (), 1)
        self.tells((0,), hued, 1, (), 1)
        self.tells((0,), hued, 1, (), LARGE)
        self.right(36, ((3, 30),), 2)
        self.right(36, ((34, 35),), 2)

    def test_all_points_in_pairs(self):
        for many in (2, 3, 8, 9, 35, 36):
            self.right(many, all_pairs(many), many)

    def test_all_but_one_point_in_pairs(self):
        self.right(36, all_pairs(35), 35)
        self.right(36, tuple(pair for pair in all_pairs(36) if pair != (0, 35)), 35)

    def test_rings_of_points(self):
        for many in range(3, 37):
            pairs = tuple(sorted([(x, x + 1) for x in range(many - 1)] + [(0, many - 1)]))
            self.right(many, pairs, 2 + many % 2)

    def test_pairs_of_hosts_that_are_all_linked(self):
        # The pairs of n hosts want n - 2 hues, as is known of Kneser's graphs.
        for many in range(3, 10):
            self.right(many * (many - 1) // 2, apart_of(many, 2), max(1, many - 2))

    def test_larger_lots_of_hosts(self):
        self.right(35, apart_of(7, 3), 3)
        self.right(20, apart_of(6, 3), 2)
        self.right(35, apart_of(7, 4), 1)
        self.right(9, apart_of(9, 1), 9)

    def test_small_ones_by_trying_all(self):
        for many in range(5):
            pairs = all_pairs(many)
            for choice in range(2 ** len(pairs)):
                some = tuple(pair for index, pair in enumerate(pairs) if choice >> index & 1)
                self.right(many, some, slow_fewest(many, some))

    def test_others_by_trying_all(self):
        chance = Random(18)
        for _ in range(500):
            many = chance.randint(5, 12)
            dense = chance.random()
            some = tuple(pair for pair in all_pairs(many) if chance.random() < dense)
            self.right(many, some, slow_fewest(many, some))

    def test_least_working_lots(self):
        nets = list(some_nets(34, 150, (6, 7))) + [full_net(7, need) for need in range(1, 8)]
        for net in nets:
            lots = least_working(net)
            self.assertLessEqual(len(lots), 35)
            self.right(len(lots), apart_pairs(lots), slow_fewest(len(lots), apart_pairs(lots)))

    def test_several_heaps_of_points(self):
        for size in (2, 3, 4, 5, 6, 9, 12):
            within = tuple(pair for pair in all_pairs(36) if pair[0] // size == pair[1] // size)
            between = tuple(pair for pair in all_pairs(36) if pair[0] // size != pair[1] // size)
            self.right(36, within, size)
            self.right(36, between, 36 // size if 36 % size == 0 else 36 // size + 1)

    def test_rings_of_five_all_paired_with_one_another(self):
        for rings in (1, 2, 3, 4):
            pairs = [pair for pair in all_pairs(5 * rings) if pair[0] // 5 != pair[1] // 5]
            pairs += [(5 * ring + a, 5 * ring + b) for ring in range(rings) for a, b in RING_OF_5]
            self.right(5 * rings, tuple(sorted(pairs)), 3 * rings)

    def test_wrong_many(self):
        for many in NO_NUMBERS + (-1, 37, LARGE, -LARGE):
            for pairs in ((), None, ((0, 0),)):
                self.refuses(BadMany, many, fewest, many, pairs)
                self.refuses(BadMany, many, hued, many, pairs, 1)
                self.refuses(BadMany, many, hued, many, pairs, -1)

    def test_wrong_pairs(self):
        for pairs in NO_TUPLES + ([(0, 1)],):
            self.refuses(BadPairs, -1, fewest, 5, pairs)
            self.refuses(BadPairs, -1, hued, 5, pairs, None)
        wrong = NO_NUMBERS + NO_TUPLES + ((1, 0), (1, 1), (0, 5), (-1, 0), (0, 1, 2), (0,), (0, True), (False, 1),
                                          (0, 1.0), (0.0, 1), [0, 1], "01", (0, None), ((0, 1),), (0, LARGE))
        for pair in wrong:
            for index, pairs in enumerate(((pair,), ((0, 1), pair), ((0, 1), (2, 3), pair, pair))):
                self.refuses(BadPairs, index, fewest, 5, pairs)
                self.refuses(BadPairs, index, hued, 5, pairs, -1)
        self.refuses(BadPairs, 1, fewest, 5, ((0, 1), (0, 1)))
        self.refuses(BadPairs, 2, fewest, 5, ((0, 1), (1, 2), (0, 2), (0, 2)))
        self.refuses(BadPairs, 0, fewest, 5, BROAD)
        self.refuses(BadPairs, 0, fewest, 0, ((0, 1),))
        self.refuses(BadPairs, 0, fewest, 1, ((0, 1),))
        self.refuses(BadPairs, 0, fewest, 36, ((0, 36),))

    def test_wrong_k(self):
        for k in NO_NUMBERS + (-1, -LARGE):
            self.refuses(BadMany, k, hued, 5, RING_OF_5, k)
            self.refuses(BadMany, k, hued, 0, (), k)


if __name__ == "__main__":
    unittest.main()
