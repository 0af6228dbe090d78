"""What hosts remember and what a house does, [39], moments, [40], and houses that are forked, [41]."""

import unittest
from itertools import permutations
from random import Random

from fifthhost.errors import BadHouse, BadMoments, TooMany
from fifthhost.netedits import with_need
from fifthhost.playing import forked, made_moments, play
from tests.common import (BARE_40, BROAD, DEEP, EMPTY, FULL_40, LARGE, NAN, NO_NUMBERS, NO_TUPLES, ONE, R, RING_40, S,
                          TRIANGLES, Case, full_net, linked_net, round_net, some_nets)
from tests.housesets import (H, LEAST, P, WHOLE_R, slow_forked, slow_play, some_house, some_moment, some_moments)

LINE = linked_net(6, [(x, x + 1) for x in range(5)])
ALWAYS = ("always",)


def by(test, log=1):
    """A house that gives a log where the test holds, and the log 9 elsewhere."""
    return ((test, ("log", log)), (ALWAYS, ("log", 9)))


class Moments(Case):

    def right(self, net, moments):
        """The things are moments, and handed back as they were."""
        self.assertIs(made_moments(net, moments), moments)

    def test_examples(self):
        self.refuses(BadMoments, 0, made_moments, P, (((0, 2),),))
        self.refuses(BadMoments, 0, made_moments, P, (((1,), (0,)),))
        self.right(R, (((0, 1, 2, 3, 4),), ((0, 1), (2, 3, 4)), ((1, 2),), ((0,), (2, 3))))

    def test_right_moments(self):
        for moments in ((), ((),), ((), ()), (((0,),),), (((4,),), ((0,),)), (((0,), (1,), (2,), (3,), (4,)),),
                        (((0, 4), (1, 2), (3,)),), (((0, 1),), ((0, 1),)), (((1,), (3,)),)):
            self.right(R, moments)
        self.right(EMPTY, ((), ()))
        # By their least hosts, not by how many hosts they have.
        self.right(R, (((0, 1, 4), (2,), (3,)),))
        self.right(FULL_40, ((tuple(range(0, 40, 2)), tuple(range(1, 40, 2))),))

    def test_what_is_no_moment(self):
        for moment in (((0, 2),), ((0, 1, 3),), ((),), ((0,), ()), ((0, 1), (1, 2)), ((0, 1, 2), (1,)), ((0,), (0,)),
                       ((1,), (0,)), ((2, 3), (0, 1)), ((3,), (1, 2)), ((1, 0),), ((0, 0),), ((5,),), ((-1,),), ((True,),),
                       ((0, True),), ((0.0,),), ((0, 1.0),), ((None,),), (((0,),),), ([0],), ((0, NAN),), ("01",), (0,), (0, 1),
                       [(0,)], ((0,), None), (BROAD,), (DEEP,), BROAD, DEEP, ((LARGE,),), ((0, 1), (2, 3), (4, 0)),
                       ((0, 2), (1,)), ((0,), (1, 3))):
            self.refuses(BadMoments, 0, made_moments, R, (moment,))
            self.refuses(BadMoments, 2, made_moments, R, ((), WHOLE_R, moment, ()))
            self.refuses(BadMoments, 1, made_moments, R, ((), moment, moment))
        for moment in NO_NUMBERS + NO_TUPLES:
            if moment != ():
                self.refuses(BadMoments, 1, made_moments, R, ((), moment))
        for moment in (((0,),), ((),)):
            self.refuses(BadMoments, 0, made_moments, EMPTY, (moment,))

    def test_orders_of_lots(self):
        lots = ((0, 4), (1,), (2, 3))
        for row in permutations(lots):
            if row == lots:
                self.right(R, (row,))
            else:
                self.refuses(BadMoments, 0, made_moments, R, (row,))

    def test_400_and_401_moments(self):
        self.right(R, (WHOLE_R,) * 400)
        for many in (401, 402, 299000):
            self.refuses(TooMany, many, made_moments, R, (WHOLE_R[:1],) * many)
            self.refuses(TooMany, many, made_moments, R, (None,) * many)
        self.refuses(TooMany, len(BROAD), made_moments, R, BROAD)
        for index in (0, 1, 200, 399):
            self.refuses(BadMoments, index, made_moments, R, (WHOLE_R,) * index + (None,) * (400 - index))

    def test_what_is_no_tuple(self):
        for thing in NO_NUMBERS + NO_TUPLES + ({}, b"", [WHOLE_R]):
            if type(thing) is not tuple:
                self.refuses(BadMoments, -1, made_moments, R, thing)


class Playing(Case):

    def last(self, net, house, moments, wanted):
        """The logs that the house gives in the last one of the moments, one for each lot that works."""
        told = play(net, house, moments)
        self.assertEqual([log for _, log in told[-1]], wanted)
        self.tells(slow_play(net, house, moments), play, net, house, moments)

    def test_examples(self):
        moments = (((0, 1, 2, 3, 4),), ((0, 1), (2, 3, 4)), ((1, 2),), ((0,), (2, 3)))
        self.tells(((((0, 1, 2, 3, 4), 0),), (((0, 1), 0), ((2, 3, 4), 0)), (((1, 2), 1),), (((2, 3), 0),)), play, R, H,
                   moments)
        self.tells(((((0, 1), 0),), (((0, 1), 0),)), play, R, H, (((0, 1),), ((0, 1),)))

    def test_tests_that_ask_the_lot_alone(self):
        for lot in ((0,), (2,), (1, 2), (0, 1, 2), (2, 3, 4), (1, 2, 3, 4, 5)):
            moments = ((lot,),)
            self.last(LINE, by(ALWAYS), moments, [1])
            for x in range(6):
                self.last(LINE, by(("has", x)), moments, [1 if x in lot else 9])
                self.last(LINE, by(("least", x)), moments, [1 if x == lot[0] else 9])
            for k in range(8):
                self.last(LINE, by(("many", k)), moments, [1 if len(lot) >= k else 9])
                self.last(LINE, by(("votes", k)), moments, [1 if len(lot) >= k else 9])
                votes = ((0, 1, 4, 0, 2, 0), LINE[1], 1)
                if sum(votes[0][x] for x in lot):
                    self.last(votes, by(("votes", k)), moments, [1 if sum(votes[0][x] for x in lot) >= k else 9])
            for word in ("many", "votes"):
                self.last(LINE, by((word, LARGE)), moments, [9])
        large = ((LARGE, LARGE), ((0, 1),), 1)
        self.last(large, by(("votes", 2 * LARGE)), (((0, 1),),), [1])
        self.last(large, by(("votes", 2 * LARGE + 1)), (((0, 1),),), [9])

    def test_last_asks_the_logs_that_hosts_remember(self):
        deal = ((("least", 0), ("log", 3)), (("least", 2), ("log", 5)), (("last", 5), ("log", 1)), (ALWAYS, ("log", 9)))
        ahead = ((0, 1), (2, 3))
        self.last(LINE, deal, (ahead, ((1, 2),)), [1])
        self.last(LINE, deal, (ahead, ((3, 4, 5),)), [1])
        self.last(LINE, deal, (ahead, ((4, 5),)), [9])
        self.last(LINE, deal, (ahead, ((1,),)), [9])
        self.last(LINE, deal, (((1, 2),), ((2,),)), [5])
        # Before it has written, a host remembers no log, not even 0.
        self.last(LINE, by(("last", 0)), (((1, 2),),), [9])
        self.last(LINE, by(("last", 9)), (((1, 2),), ((2, 3),)), [1])
        self.last(LINE, by(("last", 9)), (((1, 2),), ((3, 4),)), [9])
        self.last(LINE, by(("last", 999), 999), (((1, 2),), ((2, 3),)), [9])

    def test_shrunk_asks_the_lots_that_hosts_remember(self):
        house = by(("shrunk",))
        self.last(LINE, house, (((0, 1, 2),),), [9])
        for inner in ((0,), (1,), (0, 1), (1, 2), (0, 1, 2)):
            self.last(LINE, house, (((0, 1, 2),), (inner,)), [1])
        for other in ((2, 3), (0, 1, 2, 3), (3,), (3, 4)):
            self.last(LINE, house, (((0, 1, 2),), (other,)), [9])
        # All hosts of (1, 2) remember lots that hold it, but not the same one.
        self.last(LINE, house, (((0, 1, 2),), ((2, 3),), ((1, 2),)), [9])
        self.last(LINE, house, (((0, 1, 2),), ((1, 2, 3),), ((1, 2),)), [1])
        self.last(LINE, house, (((0, 1, 2),), ((1,), (2,)), ((1, 2),)), [9])
        self.last(LINE, house, (((0, 1),), ((2, 3),), ((0, 1),)), [1])
        # Both hosts remember (0, 1), of which only one is in the lot, or which lacks one of the lot.
        self.last(LINE, house, (((0, 1, 2),), ((0, 1),), ((1, 2),)), [9])

    def test_lots_that_do_not_work_are_remembered_without_a_log(self):
        net = with_need(LINE, 2)
        self.tells(((((0, 1), 9),), (), (((1, 2), 9),)), play, net, by(("last", 5)), (((0, 1),), ((1,), (2,)), ((1, 2),)))
        self.last(net, by(("shrunk",)), (((0, 1, 2),), ((1,),), ((1, 2),)), [9])
        self.last(net, by(("shrunk",)), (((0, 1, 2),), ((0,),), ((1, 2),)), [1])
        # A host that was in a lot that did not work still remembers the log that it wrote into before.
        self.last(net, by(("last", 9)), (((0, 1),), ((1,),), ((1, 2),)), [1])
        self.last(net, ((ALWAYS, ("last",)),), (((0,), (1,)), ((0, 1),)), [0])

    def test_hosts_in_no_lot_of_a_moment_remember_what_they_did(self):
        for between in ((), ((3, 4),), ((5,),)):
            self.last(LINE, by(("last", 9)), (((0, 1),), between, ((1, 2),)), [1])
            self.last(LINE, by(("shrunk",)), (((0, 1),), between, ((0, 1),)), [1])
        self.last(LINE, by(("shrunk",)), (((0, 1),), (), (), ((0,),)), [1])

    def test_acts(self):
        deal = ((("least", 0), ("log", 3)), (("least", 2), ("log", 2)), (("least", 5), ("log", 999)))
        ahead = ((0, 1), (2, 3), (5,))
        last = deal + ((ALWAYS, ("last",)),)
        first = deal + ((ALWAYS, ("first",)),)
        for lot, least, own in (((1, 2), 2, 3), ((1,), 3, 3), ((3,), 2, 2), ((3, 4, 5), 2, 2), ((4, 5), 999, 0), ((4,), 0, 0),
                                ((1, 2, 3, 4, 5), 2, 3)):
            self.last(LINE, last, (ahead, (lot,)), [least])
            self.last(LINE, first, (ahead, (lot,)), [own])
        self.last(LINE, ((ALWAYS, ("log", 999)),), ((), ((0,), (1,))), [999, 999])
        self.last(LINE, ((("has", 5), ("last",)),), (((0, 1),), ((0, 1, 2),)), [0])

    def test_the_first_row_that_holds(self):
        rows = ((("has", 1), ("log", 1)), (("has", 2), ("log", 2)), (("many", 2), ("log", 3)))
        self.last(LINE, rows, (((0,), (1, 2), (3,), (4, 5)),), [0, 1, 0, 3])
        self.last(LINE, rows[::-1], (((0,), (1, 2), (3,), (4, 5)),), [0, 3, 0, 3])
        self.last(LINE, (), (((0,), (1, 2)),), [0, 0])
        # A row that holds is not passed by, though its act tells 0.
        self.last(LINE, ((ALWAYS, ("first",)),) + by(ALWAYS), (((0,), (1, 2)),), [0, 0])

    def test_what_is_given_hangs_on_what_was_remembered_ahead_of_the_moment(self):
        house = ((("last", 1), ("log", 2)), (("least", 0), ("log", 1)), (ALWAYS, ("log", 9)))
        self.last(LINE, house, (((0, 1), (2, 3)),), [1, 9])
        self.last(LINE, house, (((0, 1),), ((0,), (1, 2))), [2, 2])
        self.last(LINE, house, (((0, 1),), ((0, 1),), ((0, 1),)), [1])

    def test_the_same_lot_in_each_of_two_moments(self):
        house = ((("last", 1), ("log", 2)), (("last", 2), ("log", 3)), (ALWAYS, ("log", 1)))
        told = play(LINE, house, (((0, 1),),) * 4)
        self.assertEqual([log for ((_, log),) in told], [1, 2, 3, 1])

    def test_no_moments_and_empty_ones(self):
        for net in (EMPTY, R, BARE_40, with_need(R, 6)):
            self.tells((), play, net, (), ())
            self.tells(((), ()), play, net, H if net == R else (), ((), ()))
            self.tells(None, forked, net, (), ((), ()))
        self.tells(((), ()), play, with_need(R, 6), LEAST, (WHOLE_R, ((0, 1), (2, 3))))
        self.tells(((((0,), 0),),), play, ((1,), (), 1), (), (((0,),),))
        self.tells(((),), play, ONE, (), (((0,),),))

    def test_other_houses_and_nets(self):
        chance = Random(39)
        for net in some_nets(391, 400, (2, 3, 4, 5, 6)):
            moments = some_moments(chance, net)
            for _ in range(3):
                house = some_house(chance, len(net[0]))
                played = slow_play(net, house, moments)
                self.tells(played, play, net, house, moments)
                self.tells(slow_forked(played), forked, net, house, moments)

    def test_single_rows_in_other_nets(self):
        chance = Random(40)
        for net in (full_net(5), R, TRIANGLES, S, LINE, round_net((2, 0, 1, 3, 1, 1), 3)):
            for _ in range(150):
                house = some_house(chance, len(net[0]), 2)
                moments = some_moments(chance, net)
                self.tells(slow_play(net, house, moments), play, net, house, moments)

    def test_400_moments_and_40_rows(self):
        chance = Random(41)
        moments = tuple(some_moment(chance, RING_40) for _ in range(400))
        house = tuple(row for _ in range(10) for row in some_house(chance, 40, 7))[:40]
        self.tells(slow_play(RING_40, house, moments), play, RING_40, house, moments)

    def test_errors_in_their_order(self):
        for function in (play, forked):
            self.refuses(BadHouse, -1, function, R, None, None)
            self.refuses(BadHouse, 1, function, R, (H[0], None), None)
            self.refuses(TooMany, 41, function, R, H[:1] * 41, (None,) * 500)
            self.refuses(BadMoments, -1, function, R, H, [WHOLE_R])
            self.refuses(TooMany, 401, function, R, H, (None,) * 401)
            self.refuses(BadMoments, 1, function, R, H, (WHOLE_R, ((0, 2),)))


class Forked(Case):

    def test_examples(self):
        self.tells((1, (0, 1), (2, 3, 4)), forked, R, H, (((0, 1, 2, 3, 4),), ((0, 1), (2, 3, 4))))
        self.tells(None, forked, R, LEAST, (WHOLE_R, ((0, 1), (2, 3, 4)), ((0, 4), (1, 2)), ((0, 1), (2,), (3, 4))))

    def test_the_first_moment_and_the_first_pair(self):
        apart = ((0,), (1,), (2,), (3,), (4,), (5,))
        house = tuple((("least", x), ("log", log)) for x, log in enumerate((4, 1, 2, 2, 1, 3)))
        # Of the pairs (1,) and (4,), (2,) and (3,) the one with the first one of them is told.
        self.tells((0, (1,), (4,)), forked, LINE, house, (apart,))
        self.tells((0, (2,), (3,)), forked, LINE, house, (((0,), (2,), (3,), (4,)),))
        self.tells((2, (1,), (4,)), forked, LINE, house, (((0,), (1,), (2,)), ((3, 4),), apart, apart))
        self.tells(None, forked, LINE, house, (((0,), (1,), (2,), (5,)), ((3,), (4,))))
        alike = ((("least", 0), ("log", 7)),)
        self.tells((0, (1,), (2,)), forked, LINE, alike, (apart,))
        self.tells((1, (0,), (3, 4)), forked, LINE, (), ((), ((0,), (3, 4), (5,))))

    def test_lots_that_do_not_work_are_not_asked(self):
        net = with_need(LINE, 2)
        self.tells(None, forked, net, (), (((0,), (1,), (2, 3), (4,)),))
        self.tells((0, (0, 1), (4, 5)), forked, net, (), (((0, 1), (2,), (3,), (4, 5)),))


if __name__ == "__main__":
    unittest.main()
