"""Captains, [37]."""

import unittest
from itertools import combinations

from fifthhost.captains import captains
from fifthhost.counts import once
from fifthhost.errors import TooMany
from fifthhost.longrings import some_ring
from fifthhost.netedits import renamed, with_link, with_need, with_votes
from fifthhost.readers import meets_all
from tests.common import (BARE_40, EMPTY, FULL_40, LARGE, LARGE_40, ONE, R, RING_40, RINGS, S, TEN, TRIANGLES, Case,
                          all_nets, full_net, hubs_net, linked_net, round_net, slow_working, some_nets)

ROW = linked_net(4, [(0, 1), (1, 2), (2, 3)], need=2)
# Trees of forty hosts: a row, a star, one where each host has two behind it, a row of stars, and pieces of all sorts.
TREES_40 = tuple(linked_net(40, links) for links in (
    [(x, x + 1) for x in range(39)], [(0, x) for x in range(1, 40)], [((x - 1) // 2, x) for x in range(1, 40)],
    [(x - x % 5, x) if x % 5 else (x - 5, x) for x in range(1, 40)], [(x, x + 1) for x in range(39) if x % 7],
    [(x, 39 - x) for x in range(20)], []))


def slow_captains(net):
    """How few hosts can meet all working lots, by trying all lots, the shorter ones first."""
    working = [set(lot) for lot in slow_working(net)]
    for size in range(len(net[0]) + 1):
        if any(all(set(lot) & other for other in working) for lot in combinations(range(len(net[0])), size)):
            return size


class Captains(Case):

    def right(self, net, many):
        """So many hosts, rising, that meet each working lot."""
        told = captains(net)
        self.tells(told, captains, net)
        self.assertEqual(told, tuple(sorted(set(told))))
        self.assertTrue(meets_all(net, told), (net, told))
        self.assertEqual(len(told), many, (net, told))

    def test_examples(self):
        self.assertEqual(once(R), 2)
        self.right(R, 3)
        self.assertIn(captains(ROW), ((0, 2), (1, 2), (1, 3)))

    def test_each_working_lot_is_met(self):
        for net in (R, S, TRIANGLES, ROW, RINGS, full_net(6, 3), hubs_net(7, 3)):
            told = set(captains(net))
            for lot in slow_working(net):
                self.assertTrue(told & set(lot))

    def test_all_links_of_few_hosts(self):
        for many in range(5):
            for net in all_nets(many):
                for votes, need in (((1, 1, 1, 1), 1), ((1, 1, 1, 1), 2), ((1, 2, 0, 3), 3), ((2, 2, 1, 1), 4)):
                    one = (votes[:many], net[1], need)
                    self.right(one, slow_captains(one))

    def test_other_nets(self):
        for net in some_nets(371, 150, (5, 6)):
            self.right(net, slow_captains(net))
        for net in some_nets(373, 15, (7, 8, 9)):
            self.right(net, slow_captains(net))

    def test_kinds_of_blocks(self):
        for net in (R, TRIANGLES, RINGS, full_net(4), full_net(6), full_net(7, 3), hubs_net(5), hubs_net(7, 3, True),
                    round_net((1, 2, 0, 1, 3, 1), 3), round_net((1,) * 7, 3), ROW, S, with_need(S, 3)):
            self.right(net, slow_captains(net))
            self.assertGreaterEqual(len(captains(net)), once(net))

    def test_rings_that_want_more_captains_than_once(self):
        self.right(round_net((1, 1, 1), 2), 2)
        self.assertEqual(once(round_net((1, 1, 1), 2)), 1)
        self.right(full_net(5), 4)
        self.assertEqual(once(full_net(5)), 2)

    def test_nets_without_a_ring_of_few_hosts(self):
        for net in some_nets(375, 400, (2, 3, 4, 5, 6)):
            if some_ring(net) is None:
                self.right(net, slow_captains(net))
                self.right(net, once(net))

    def test_nets_without_a_ring_of_forty_hosts(self):
        for net in TREES_40:
            self.assertIsNone(some_ring(net))
            for need in (1, 2, 3, 4, 5, 7, 12, 20, 39, 40, 41):
                for votes in ((1,) * 40, tuple((x * x + 3) % 4 for x in range(40)), tuple(x % 5 for x in range(40))):
                    one = (votes, net[1], need)
                    self.right(one, once(one))
                    other = renamed(one, tuple(x * 7 % 40 for x in range(40)))
                    self.right(other, once(other))

    def test_large_votes(self):
        for net in TREES_40:
            large = (tuple(LARGE + x for x in range(40)), net[1], 3 * LARGE + 50)
            self.right(large, once(large))
        self.right((tuple(votes * LARGE for votes in R[0]), R[1], 2 * LARGE), 3)

    def test_no_working_lot(self):
        for net in (EMPTY, ONE, BARE_40, with_need(R, 6), ((0,) * 9, full_net(9)[1], 1), with_need(TREES_40[0], 41)):
            self.tells((), captains, net)

    def test_nine_and_ten_hosts_with_a_ring(self):
        self.right(round_net((1,) * 9, 3), 3)
        self.right(full_net(9, 4), 6)
        for net in (round_net((1,) * 10, 3), full_net(10, 20), TEN, RING_40, FULL_40, LARGE_40, ((0,) * 10, R[1], 1),
                    with_link(TREES_40[1], 1, 2)):
            self.refuses(TooMany, len(net[0]), captains, net)

    def test_ten_and_forty_hosts_without_a_ring(self):
        row = linked_net(10, [(x, x + 1) for x in range(9)], need=3)
        self.right(row, 3)
        self.refuses(TooMany, 10, captains, with_link(row, 0, 2))
        self.right(with_need(BARE_40, 1), 40)
        self.right(with_votes(with_need(BARE_40, 2), 17, 2), 1)


if __name__ == "__main__":
    unittest.main()
