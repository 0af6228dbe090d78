"""Who reads and who commands, [35] and [36]."""

import unittest
from itertools import combinations
from random import Random

from fifthhost.errors import BadLog, BadLot, BadRule, TooMany, Unruled
from fifthhost.netedits import with_need
from fifthhost.readers import commands, meets_all, meets_log, unseen
from tests.common import (BARE_40, BROAD, DEEP, EMPTY, FULL_40, LARGE, LARGE_40, NO_NUMBERS, NO_TUPLES, ONE, R, RING_40, S,
                          TRIANGLES, Case, full_net, hubs_net, slow_lots, slow_pieces, slow_working, some_nets)
from tests.rulesets import RING_RULE, ZERO, rule_with, slow_log, some_rule

READERS = (meets_all, unseen, commands)
NO_LOGS = NO_NUMBERS + NO_TUPLES[5:] + (-1, -LARGE)
WRONG_LOTS = ((None, -1), ([0, 1], -1), ("01", -1), (5, -1), ((1, 0), 1), ((0, 0), 1), ((0, 5), 1), ((-1,), 0),
              ((True,), 0), ((0, 1.0), 1), (((0,),), 0), ((0, None), 1), (BROAD, 5), (DEEP, 0))


class Readers(Case):

    def test_examples(self):
        self.tells(False, meets_all, R, (1, 3))
        self.tells((0, 4), unseen, R, (1, 3))
        self.tells(None, unseen, R, (0, 2, 4))
        self.tells(True, meets_all, R, (0, 2, 4))
        self.tells(False, commands, R, (0, 2, 4))
        self.tells(False, commands, R, (0, 1, 2))
        self.tells(True, commands, R, (0, 1, 2, 3))
        self.tells((0, 1, 2, 3, 4), unseen, R, ())

    def test_all_lots_of_small_nets(self):
        for net in [R, S, TRIANGLES, EMPTY, ONE, full_net(4), hubs_net(5)] + list(some_nets(351, 60, (2, 3, 4, 5, 6))):
            working = slow_working(net)
            for lot in [()] + slow_lots(len(net[0])):
                rest = tuple(x for x in range(len(net[0])) if x not in lot)
                found = [piece for piece in slow_pieces(net, rest) if piece in working]
                meets = all(set(lot) & set(other) for other in working)
                self.tells(found[0] if found else None, unseen, net, lot)
                self.tells(meets, meets_all, net, lot)
                self.tells(meets and lot in working, commands, net, lot)

    def test_the_first_piece_that_works(self):
        net = ((1, 0, 1, 0, 2, 0, 3, 9), ((0, 1), (2, 3), (4, 5)), 2)
        self.tells((4, 5), unseen, net, ())
        self.tells((4, 5), unseen, net, (0, 1, 2, 3))
        self.tells((4,), unseen, net, (5,))
        self.tells((6,), unseen, net, (4,))
        self.tells((7,), unseen, net, (4, 6))
        self.tells(None, unseen, net, (4, 6, 7))
        # By least host, not by how many hosts a piece has.
        self.tells((0, 2, 3), unseen, ((1, 9, 1, 1, 9), ((0, 2), (2, 3)), 3), (4,))

    def test_lots_that_are_empty_or_all(self):
        for net in (R, S, TRIANGLES, FULL_40, RING_40, LARGE_40, hubs_net(40, 3)):
            every = tuple(range(len(net[0])))
            self.tells(every, unseen, net, ())
            self.tells(False, meets_all, net, ())
            self.tells(None, unseen, net, every)
            self.tells(True, meets_all, net, every)
            self.tells(True, commands, net, every)
        for net in (EMPTY, ONE, with_need(R, 6), BARE_40):
            self.tells(None, unseen, net, ())
            self.tells(True, meets_all, net, ())
            self.tells(False, commands, net, ())
            self.tells(False, commands, net, tuple(range(len(net[0]))))

    def test_forty_hosts(self):
        self.tells((3, 4, 5), unseen, RING_40, (0, 1, 2, 6) + tuple(range(9, 40)))
        self.tells(True, meets_all, RING_40, tuple(range(0, 40, 3)))
        self.tells((37, 38, 39), unseen, RING_40, tuple(range(0, 37, 3)))
        self.tells((3, 38, 39), unseen, FULL_40, (0, 1, 2) + tuple(range(4, 38)))
        self.tells(False, meets_all, LARGE_40, ())
        self.tells(True, meets_all, LARGE_40, (17,))

    def test_wrong_lots(self):
        for lot, index in WRONG_LOTS:
            for function in READERS:
                self.refuses(BadLot, index, function, R, lot)


class ReadersOfLogs(Case):

    def test_examples(self):
        self.tells(True, meets_log, R, RING_RULE, (1, 3), 0)
        self.tells(False, meets_log, R, RING_RULE, (1, 3), 2)
        self.tells(True, meets_log, R, RING_RULE, (), 1000)

    def test_beside_a_plain_listing(self):
        chance = Random(36)
        for net in some_nets(361, 150, (2, 3, 4, 5)):
            rule = some_rule(chance, len(net[0]), chance.choice((0, 1, 3)))
            told = {lot: slow_log(dict(enumerate(net[0])), rule, set(lot)) for lot in slow_working(net)}
            unruled = [lot for lot, log in told.items() if log is None]
            for lot in [()] + slow_lots(len(net[0])):
                for log in (0, 1, 2, 999, 1000, LARGE):
                    if unruled:
                        self.refuses(Unruled, unruled[0], meets_log, net, rule, lot, log)
                        continue
                    wanted = all(set(lot) & set(other) for other, its in told.items() if its == log)
                    self.tells(wanted, meets_log, net, rule, lot, log)

    def test_lots_that_are_empty_or_all_or_do_not_hang(self):
        for log in range(3):
            self.tells(False, meets_log, R, RING_RULE, (), log)
            self.tells(True, meets_log, R, RING_RULE, (0, 1, 2, 3, 4), log)
            self.tells(True, meets_log, R, RING_RULE, (0, 2, 4), log)
        self.tells(True, meets_log, R, RING_RULE, (0, 3), 2)
        for lot in [()] + slow_lots(5):
            for log in (3, 999, 1000, 1001, LARGE):
                self.tells(True, meets_log, R, RING_RULE, lot, log)

    def test_logs_above_999_that_a_rule_tells(self):
        rule = ("ring", (0, 1, 2, 3, 4), (0, 1, 2, 3, 4), 3, 998)
        self.tells(False, meets_log, R, rule, (1, 3), 1000)
        self.tells(True, meets_log, R, rule, (4,), 1000)
        self.tells(True, meets_log, R, rule, (), 0)

    def test_each_log_of_each_lot(self):
        rule = ("table", tuple((lot, index) for index, lot in enumerate(slow_working(R))))
        for index, lot in enumerate(slow_working(R)):
            for other in [()] + slow_lots(5):
                self.tells(bool(set(lot) & set(other)), meets_log, R, rule, other, index)

    def test_no_working_lot(self):
        for net in (EMPTY, with_need(R, 6), ((0,) * 9, (), 1)):
            for log in (0, 7, LARGE):
                self.tells(True, meets_log, net, ("table", ()), (), log)

    def test_nine_and_ten_hosts(self):
        nine, ten = full_net(9, 5), full_net(10, 5)
        self.tells(True, meets_log, nine, ZERO, (0, 2, 4, 6, 8), 0)
        self.tells(False, meets_log, nine, ZERO, (0, 2, 4, 6), 0)
        for net in (ten, FULL_40, BARE_40):
            for rule in (ZERO, ("table", ())):
                self.refuses(TooMany, len(net[0]), meets_log, net, rule, (), 0)

    def test_the_first_unruled_lot_whatever_the_log_is(self):
        lots = slow_working(R)
        for left_out in lots:
            # Behind the lot that is told no lot has a row, either.
            rule = ("table", tuple((lot, 0) for lot in lots[:lots.index(left_out)]))
            for lot in ((), (0, 1, 2, 3, 4), left_out):
                for log in (0, 5, LARGE):
                    self.refuses(Unruled, left_out, meets_log, R, rule, lot, log)
        self.refuses(Unruled, (0, 1), meets_log, R, ("table", ()), (0, 1), 5)

    def test_errors_in_their_order(self):
        ten = full_net(10, 5)
        for lot in (None, (9, 8), (0,)):
            for log in (0, -1, None):
                self.refuses(BadRule, (), meets_log, ten, ("has", 10, 0, ZERO), lot, log)
                self.refuses(TooMany, 401, meets_log, ten, rule_with(401), lot, log)
        for lot, index in WRONG_LOTS:
            for log in (0, -1, None):
                self.refuses(BadLot, index, meets_log, R, ("table", ()), lot, log)
        for log in NO_LOGS + (BROAD, DEEP):
            self.refuses(BadLog, log, meets_log, ten, ("table", ()), (), log)
            self.refuses(BadLog, log, meets_log, R, ("table", ()), (), log)
            self.refuses(BadLog, log, meets_log, EMPTY, ZERO, (), log)
        self.refuses(TooMany, 10, meets_log, ten, ("table", ()), (), 0)

    def test_all_readers_of_a_log(self):
        # A lot reads the log 0 of the ring if it has the host 1, or both other hosts that a lot with this log can have.
        told = {lot for size in range(3) for lot in combinations(range(5), size) if meets_log(R, RING_RULE, lot, 0)}
        self.assertEqual(told, {(1,), (0, 1), (1, 2), (1, 3), (1, 4), (0, 2)})


if __name__ == "__main__":
    unittest.main()
