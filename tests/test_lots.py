"""Lots, [5] to [7]."""

import unittest

from fifthhost.errors import BadLot
from fifthhost.lots import apart, hangs, made_lot, pieces, votes_of, whole, works
from fifthhost.netedits import without_link
from tests.common import (BARE_40, BROAD, DEEP, EMPTY, FULL_40, LARGE, LARGE_40, NO_NUMBERS, NO_TUPLES, ONE, R,
                          RING_40, S, Case, all_nets, slow_hangs, slow_lots, slow_pieces)

ALL_40 = tuple(range(40))


class Lots(Case):

    def test_examples(self):
        self.refuses(BadLot, 1, made_lot, R, (1, 1))
        self.refuses(BadLot, 1, made_lot, R, (0, 5))
        self.tells(5, votes_of, S, (0, 2))

    def test_lots_are_returned_as_they_are(self):
        for net, lot in ((EMPTY, ()), (R, ()), (R, (0,)), (R, (4,)), (R, (0, 2, 4)), (R, (0, 1, 2, 3, 4)),
                         (FULL_40, ALL_40), (BARE_40, (39,))):
            self.tells(lot, made_lot, net, lot)

    def test_no_tuple(self):
        for function in (made_lot, votes_of, hangs, works, pieces):
            for thing in NO_TUPLES:
                self.refuses(BadLot, -1, function, R, thing)

    def test_wrong_index(self):
        wrong = [((wrong,), 0) for wrong in NO_NUMBERS + (-1, 5, LARGE, -LARGE)]
        wrong += [((0, wrong, 3), 1) for wrong in NO_NUMBERS + (-1, 0, 5, LARGE)]
        wrong += [((2, 1), 1), ((0, 1, 1), 2), ((0, 1, 3, 2), 3), ((0, 1, 2, 3, 4, 4), 5), ((0, 1, 2, 3, 4, 5), 5),
                  ((4, 9, None), 1), (BROAD, 5), (DEEP, 0)]
        for function in (made_lot, votes_of, hangs, works, pieces):
            for thing, index in wrong:
                self.refuses(BadLot, index, function, R, thing)
            self.refuses(BadLot, 0, function, EMPTY, (0,))
            self.refuses(BadLot, 40, function, FULL_40, ALL_40 + (40,))

    def test_votes(self):
        self.tells(0, votes_of, S, ())
        self.tells(0, votes_of, EMPTY, ())
        self.tells(0, votes_of, S, (1,))
        self.tells(5, votes_of, S, (0, 1, 2))
        self.tells(40, votes_of, BARE_40, ALL_40)
        self.tells(2 * LARGE + 46, votes_of, LARGE_40, (7, 39))


class HangAndWork(Case):

    def test_examples(self):
        self.tells(False, hangs, S, (0, 2))
        self.tells(False, works, S, (0, 2))
        self.tells(False, works, S, (0, 1))
        self.tells(True, works, S, (0, 1, 2))
        self.tells(False, hangs, S, ())

    def test_edges(self):
        self.tells(False, hangs, EMPTY, ())
        self.tells(False, works, EMPTY, ())
        self.tells(True, hangs, ONE, (0,))
        self.tells(False, works, ONE, (0,))
        self.tells(True, works, ((1,), (), 1), (0,))
        self.tells(False, works, ((1,), (), 2), (0,))
        self.tells(False, works, S, ())

    def test_every_lot_of_every_small_net(self):
        for net in all_nets(4):
            for lot in slow_lots(4):
                hanging = slow_hangs(net, lot)
                self.tells(hanging, hangs, net, lot)
                for need in (1, 2, 3, 4, 5):
                    self.tells(hanging and len(lot) >= need, works, net[:2] + (need,), lot)

    def test_forty_hosts(self):
        self.tells(False, hangs, BARE_40, ALL_40)
        self.tells(True, hangs, BARE_40, (39,))
        self.tells(True, hangs, RING_40, ALL_40)
        self.tells(True, hangs, RING_40, ALL_40[1:])
        self.tells(True, hangs, RING_40, (0, 1, 38, 39))
        self.tells(False, hangs, RING_40, (0, 1, 37, 39))
        self.tells(True, hangs, FULL_40, (3, 17, 39))

    def test_votes_of_hundreds_of_figures(self):
        self.tells(True, works, LARGE_40, ALL_40)
        self.tells(False, works, LARGE_40, ALL_40[1:])
        more = (LARGE_40[0], LARGE_40[1], LARGE_40[2] + 1)
        self.tells(False, works, more, ALL_40)


class Pieces(Case):

    def test_examples(self):
        self.tells(((0, 1), (3,)), pieces, R, (0, 1, 3))
        self.tells(((0, 4), (2,)), pieces, R, (0, 2, 4))
        self.tells(((0,), (1, 2)), whole, without_link(S, 0, 1))
        self.tells((), whole, ((), (), 1))
        self.tells(True, apart, (0, 1), (2,))
        self.tells(False, apart, (0, 1), (1,))
        self.tells(True, apart, (), ())

    def test_edges(self):
        self.tells((), pieces, EMPTY, ())
        self.tells((), pieces, R, ())
        self.tells(((3,),), pieces, R, (3,))
        self.tells(((0,),), whole, ONE)
        self.tells(((0, 1, 2, 3, 4),), whole, R)

    def test_by_least_host_and_not_by_the_order_of_lots(self):
        self.tells(((0, 2, 3), (1,)), whole, ((1, 1, 1, 1), ((0, 3), (2, 3)), 1))

    def test_every_lot_of_every_small_net(self):
        for net in all_nets(4):
            for lot in [()] + slow_lots(4):
                self.tells(slow_pieces(net, lot), pieces, net, lot)
            self.tells(slow_pieces(net, (0, 1, 2, 3)), whole, net)

    def test_forty_hosts(self):
        self.tells(tuple((x,) for x in ALL_40), whole, BARE_40)
        self.tells((ALL_40,), whole, RING_40)
        self.tells((ALL_40,), whole, FULL_40)
        self.tells(tuple((x,) for x in range(0, 40, 2)), pieces, RING_40, tuple(range(0, 40, 2)))
        self.tells(((0, 1, 39), (37,)), pieces, RING_40, (0, 1, 37, 39))

    def test_apart(self):
        for one, two, wanted in (((), (0,), True), ((0,), (), True), ((0,), (0,), False), ((3, 1, 3), (2, 4), True),
                                 ((3, 1, 3), (2, 3), False), ((-1,), (-2,), True), ((LARGE,), (LARGE + 1,), True),
                                 ((LARGE,), (5, LARGE), False), (BROAD, (-1,), True), ((298999,), BROAD, False)):
            self.tells(wanted, apart, one, two)
            self.tells(wanted, apart, two, one)


if __name__ == "__main__":
    unittest.main()
