"""Lists of lots, [8] and [9], in the order of [5]."""

import unittest
from itertools import combinations
from random import Random

from fifthhost.errors import TooMany
from fifthhost.listing import least_working, lots, working
from fifthhost.netedits import with_need
from tests.common import (BARE_40, EMPTY, FULL_40, LARGE, LARGE_40, ONE, R, RING_40, S, Case, all_nets, linked_net,
                          slow_hangs, slow_lots)

LISTS = (lots, working, least_working)


def slow_working(net):
    return tuple(lot for lot in slow_lots(len(net[0]))
                 if slow_hangs(net, lot) and sum(net[0][x] for x in lot) >= net[2])


def slow_least(net):
    found = slow_working(net)
    return tuple(lot for lot in found if not any(set(other) < set(lot) for other in found))


class Listing(Case):

    def test_examples(self):
        self.tells(((0,), (1,), (2,), (0, 1), (1, 2), (0, 1, 2)), lots, S)
        self.tells((), lots, ((), (), 1))
        s3 = with_need(S, 3)
        self.tells(((0,), (0, 1), (0, 1, 2)), working, s3)
        self.tells(((0,),), least_working, s3)
        self.tells(((0, 1), (0, 4), (1, 2), (2, 3), (3, 4)), least_working, R)
        self.assertEqual(len(working(R)), 16)
        self.tells((), working, with_need(S, 6))
        self.tells((), least_working, with_need(S, 6))

    def test_order_of_lots(self):
        told = lots(R)
        places = [told.index(lot) for lot in ((4,), (0, 1), (0, 4), (0, 1, 2))]
        self.assertEqual(places, sorted(places))
        full = lots(linked_net(4, combinations(range(4), 2)))
        self.assertEqual(full, tuple(slow_lots(4)))
        self.assertLess(full.index((3,)), full.index((0, 1)))

    def test_edges(self):
        for function in LISTS:
            self.tells((), function, EMPTY)
        self.tells(((0,),), lots, ONE)
        self.tells((), working, ONE)
        self.tells(((0,),), working, ((1,), (), 1))
        self.tells(((0,),), least_working, ((1,), (), 1))
        self.tells(((0,), (1,)), working, ((5, 5), (), 5))

    def test_least_of_lots_that_lie_within_one_another(self):
        net = linked_net(3, [(0, 1), (1, 2)], (0, 2, 0), 2)
        self.tells(((1,), (0, 1), (1, 2), (0, 1, 2)), working, net)
        self.tells(((1,),), least_working, net)

    def test_every_small_net(self):
        for net in all_nets(4):
            self.assertEqual(lots(net), tuple(lot for lot in slow_lots(4) if slow_hangs(net, lot)))
            for votes, need in (((1, 1, 1, 1), 2), ((3, 0, 1, 2), 3), ((0, 2, 0, 2), 2)):
                this = (votes, net[1], need)
                self.assertEqual(working(this), slow_working(this))
                self.assertEqual(least_working(this), slow_least(this))

    def test_some_greater_nets(self):
        chance = Random(5)
        for many in (6, 7, 8, 9):
            links = [pair for pair in combinations(range(many), 2) if chance.random() < 0.4]
            net = linked_net(many, links, tuple(chance.randrange(5) for _ in range(many)), 6)
            self.tells(slow_working(net), working, net)
            self.tells(slow_least(net), least_working, net)

    def test_nine_hosts(self):
        full = linked_net(9, combinations(range(9), 2), need=4)
        self.tells(tuple(slow_lots(9)), lots, full)
        self.tells(tuple(lot for lot in slow_lots(9) if len(lot) >= 4), working, full)
        self.tells(tuple(combinations(range(9), 4)), least_working, full)
        large = ((LARGE,) * 9, full[1], 4 * LARGE)
        self.tells(tuple(combinations(range(9), 4)), least_working, large)
        self.tells(((0, 1, 2, 3, 4, 5, 6, 7, 8),), working, ((LARGE,) * 9, full[1], 9 * LARGE))
        self.tells(tuple((x,) for x in range(9)), lots, linked_net(9, []))

    def test_ten_hosts_and_more(self):
        for function in LISTS:
            self.refuses(TooMany, 10, function, linked_net(10, []))
            self.refuses(TooMany, 10, function, linked_net(10, [(0, 1)], need=99))
            for net in (BARE_40, RING_40, FULL_40, LARGE_40):
                self.refuses(TooMany, 40, function, net)


if __name__ == "__main__":
    unittest.main()
