"""Restores, [59], what can be lost by them, [60], and which of them do harm, [61]."""

import unittest
from itertools import combinations
from random import Random

from fifthhost import errors
from fifthhost.errors import BadLot, BadRestores, BadRule, TooMany, Unruled
from fifthhost.making import rule_of
from fifthhost.restores import allowed, forgetful, harmful, loss, loss_right, lost, made_restores
from tests.common import (BARE_40, BROAD, DEEP, EMPTY, FULL_40, LARGE, NAN, NET_ERRORS, NO_NUMBERS, NO_TUPLES, R, RING_40, Case,
                          frozen, full_net, linked_net, slow_hangs, slow_pieces, slow_working, some_nets)
from tests.rulesets import RING_RULE, ZERO, slow_log, some_rule

T = full_net(3)
K = full_net(4, 3)
Q = ((2, (0, 1)), (1, (0, 3)), (0, (3,)))
LINE = linked_net(4, [(0, 1), (1, 2), (2, 3)], need=2)
NO_LOTS = (True, None, 0, 1.0, "", "01", [], [0, 1], (1, 0), (0, 0), (0, 5), (-1, 0), (True,), (0, 1.0), (0, None), ("0",), ((0,),),
           (0, NAN), BROAD, DEEP)


def slow_restore(net, x, lot):
    """Whether x and a lot of the net are a restore."""
    return slow_hangs(net, lot) and x not in lot and any(x in pair and set(pair) & set(lot) for pair in net[1])


def all_restores(net):
    """All restores of a net."""
    many = range(len(net[0]))
    return [(x, lot) for x in many for size in range(1, len(many)) for lot in combinations(many, size)
            if slow_restore(net, x, lot)]


def slow_lost(restores, lot):
    """What can be lost, round by round."""
    gone = set()
    while True:
        more = {x for x, s in restores if x in lot and set(s) & set(lot) <= gone}
        if more <= gone:
            return tuple(sorted(gone))
        gone |= more


def some_restores(chance, net, most=12):
    """Some restores of a net, some of them twice."""
    every = all_restores(net)
    told = [chance.choice(every) for _ in range(chance.randint(0, most))] if every else []
    return tuple(told)


class Restores(Case):

    def right(self, net, restores):
        self.assertIs(made_restores(net, restores), restores)

    def test_right_restores(self):
        for restores in ((), ((1, (0, 2)),), ((1, (2,)),) * 200, Q):
            self.right(K, restores)
        self.right(EMPTY, ())
        self.right(FULL_40, ((39, tuple(range(39))), (0, (1,)), (0, (39,))))
        for net in (R, T, LINE):
            self.right(net, tuple(all_restores(net)))

    def test_every_pair_of_a_host_and_a_lot(self):
        for net in list(some_nets(5, 12, (3, 4, 5))) + [LINE]:
            many = range(len(net[0]))
            for size in range(len(many) + 1):
                for lot in combinations(many, size):
                    for x in many:
                        if slow_restore(net, x, lot):
                            self.right(net, ((x, lot),))
                        else:
                            self.refuses(BadRestores, 0, made_restores, net, ((x, lot),))

    def test_each_wrong_form(self):
        for x in NO_NUMBERS + NO_TUPLES[5:] + (-1, 5, LARGE, -LARGE):
            self.refuses(BadRestores, 1, made_restores, R, ((2, (1,)), (x, (1,))))
        for lot in NO_LOTS + ((), (2,), (2, 3), (0,), (4,), (0, 4), (0, 1, 3)):
            self.refuses(BadRestores, 0, made_restores, R, ((2, lot),))
            self.refuses(BadRestores, 2, made_restores, R, ((2, (1,)), (2, (3,)), (2, lot), (None, None)))
        for restore in NO_TUPLES + (None, (), (2,), (2, (1,), 0), [2, (1,)], (2, 1), ((1,), 2), ((2, (1,)),), BROAD, DEEP):
            self.refuses(BadRestores, 0, made_restores, R, (restore,))
        for thing in NO_TUPLES + (None, [], [(2, (1,))]):
            self.refuses(BadRestores, -1, made_restores, R, thing)

    def test_how_many(self):
        self.refuses(TooMany, 201, made_restores, R, ((2, (1,)),) * 201)
        self.refuses(TooMany, 201, made_restores, R, (None,) * 201)
        self.refuses(TooMany, 299000, made_restores, R, BROAD)
        self.refuses(BadRestores, 199, made_restores, R, ((2, (1,)),) * 199 + (None,))

    def test_allowed_examples(self):
        self.tells(True, allowed, T, 1, (0, 2))
        self.tells(False, allowed, T, 1, (2,))
        self.tells(False, allowed, T, 1, (1, 2))
        self.tells(False, allowed, T, 3, (0,))
        self.tells(True, allowed, LINE, 0, (1,))

    def test_allowed_beside_plain_pieces(self):
        for net in some_nets(9, 60, (1, 3, 4, 5, 6)):
            many = range(len(net[0]))
            for size in range(len(many) + 1):
                for lot in combinations(many, size):
                    pieces = slow_pieces(net, tuple(y for y in many if y not in lot))
                    for x in many:
                        weak = all(sum(net[0][y] for y in piece) < net[2] for piece in pieces if x in piece)
                        self.tells(slow_restore(net, x, lot) and weak, allowed, net, x, lot)

    def test_allowed_of_odd_things(self):
        for net, _, _ in NET_ERRORS:
            self.tells(False, allowed, net, 1, (0, 2))
            self.tells(False, allowed, net, None, None)
        for x in NO_NUMBERS + NO_TUPLES[5:] + (-1, 3, LARGE):
            self.tells(False, allowed, T, x, (0, 2))
            self.tells(False, allowed, T, x, x)
        for lot in NO_LOTS + ((),):
            self.tells(False, allowed, T, 1, lot)
        self.tells(True, allowed, net=T, lot=(0, 2), x=1)


class Losses(Case):

    def check_loss(self, net, restores, lot):
        """What is lost is what going round by round tells, and the order of losses is a right one."""
        wanted = slow_lost(restores, lot)
        self.tells(wanted, lost, net, restores, lot)
        told = loss(net, restores, lot)
        self.tells(told, loss, net, restores, lot)
        self.assertEqual(sorted(x for x, _ in told), list(wanted))
        gone = set()
        for x, s in told:
            self.assertIn((x, s), restores)
            self.assertLessEqual(set(s) & set(lot), gone)
            gone.add(x)
        self.tells(True, loss_right, net, restores, lot, told)
        return told

    def test_examples(self):
        self.tells((1,), lost, T, ((1, (2,)),), (0, 1))
        self.tells((), lost, T, ((1, (0, 2)),), (0, 1))
        both = ((0, (1,)), (1, (0,)))
        self.tells((), lost, T, both, (0, 1))
        self.tells((0,), lost, T, both, (0, 2))
        self.tells((0, 1, 2), lost, K, Q, (0, 1, 2))
        self.tells(((0, (3,)), (1, (0, 3)), (2, (0, 1))), loss, K, Q, (0, 1, 2))
        self.tells(True, loss_right, K, Q, (0, 1, 2), Q[::-1])
        self.tells(False, loss_right, K, Q, (0, 1, 2), Q)
        self.tells((), lost, K, Q, (0, 1, 3))

    def test_drawn_restores(self):
        for seed, net in enumerate(some_nets(21, 120, (3, 4, 5, 6))):
            chance = Random(seed)
            restores = some_restores(chance, net)
            many = range(len(net[0]))
            for size in range(len(many) + 1):
                for lot in combinations(many, size):
                    self.check_loss(net, restores, lot)

    def test_rows_bent_in_one_place(self):
        for seed, net in enumerate(some_nets(33, 60, (4, 5))):
            chance = Random(seed)
            restores = some_restores(chance, net, 20)
            lot = tuple(sorted(chance.sample(range(len(net[0])), 3)))
            told = self.check_loss(net, restores, lot)
            for row in self.bent(told, restores + ((0, (1,)), (1, (0,)))):
                self.tells(self.slow_right(restores, lot, row), loss_right, net, restores, lot, row)

    def bent(self, row, restores):
        """Rows that are otherwise in one place, or turned about."""
        for i in range(len(row)):
            yield row[:i] + row[i + 1:]
            yield row[:i] + row[i:i + 1] + row[i:]
            for other in restores:
                yield row[:i] + (other,) + row[i + 1:]
                yield row[:i] + (other,) + row[i:]
            for j in range(i):
                yield row[:j] + (row[i],) + row[j + 1:i] + (row[j],) + row[i + 1:]

    def slow_right(self, restores, lot, row):
        """Whether a row is right, by the words of [60]."""
        ahead = set()
        for x, s in row:
            if (x, s) not in restores or x in ahead or not set(s) & set(lot) <= ahead:
                return False
            ahead.add(x)
        return tuple(sorted(ahead)) == slow_lost(restores, lot)

    def test_odd_rows(self):
        restores, lot = ((1, (2,)),), (0, 1)
        self.tells(True, loss_right, T, restores, lot, ((1, (2,)),))
        for row in (((True, (2,)),), ((1.0, (2,)),), ((1, (2.0,)),), ([1, (2,)],), ((1, [2]),), [(1, (2,))], ((1, (2,), 0),), (1,),
                    ((1, (2,)),) * 2, (), None, 0, "", ((1,),), BROAD, DEEP, ((1, BROAD),), (DEEP,), ((0, (2,)),), ((1, (0, 2)),)):
            self.tells(False, loss_right, T, restores, lot, row)
        self.tells(True, loss_right, T, (), lot, ())
        self.tells(True, loss_right, T, (), (), ())
        self.tells(False, loss_right, T, (), lot, ((1, (2,)),))
        for net, _, _ in NET_ERRORS:
            self.tells(False, loss_right, net, (), (), ())
        for wrong in NO_LOTS:
            self.tells(False, loss_right, T, (), wrong, ())
        for wrong in ([], None, 0, ((1, (1,)),), (None,), ((1, (2,)),) * 201, BROAD):
            self.tells(False, loss_right, T, wrong, (), ())
        self.tells(True, loss_right, row=(), lot=(0,), net=T, restores=())

    def test_what_is_refused(self):
        for function in (lost, loss):
            for net, error, what in NET_ERRORS:
                self.refuses(getattr(errors, error), what, function, net, None, None)
            self.refuses(BadRestores, -1, function, T, [], None)
            self.refuses(TooMany, 201, function, T, ((1, (2,)),) * 201, None)
            self.refuses(BadRestores, 1, function, T, ((1, (2,)), (1, (1,))), None)
            for lot, what in (([], -1), (None, -1), ((0, 3), 1), ((1, 0), 1), ((True,), 0), ((0, 1.0), 1), (BROAD, 3)):
                self.refuses(BadLot, what, function, T, ((1, (2,)),), lot)
            self.tells(function(K, Q, (0, 1, 2)), function, lot=(0, 1, 2), net=K, restores=Q)

    def test_forty_hosts(self):
        # Each host is restored from the next one, so all is lost from the far end on.
        net = linked_net(40, [(x, x + 1) for x in range(39)])
        restores = tuple((x, (x + 1,)) for x in range(39)) * 5
        self.assertEqual(len(restores), 195)
        self.tells(tuple(range(39)), lost, net, restores, tuple(range(39)))
        self.tells((), lost, net, restores, tuple(range(40)))
        self.tells(tuple((x, (x + 1,)) for x in range(38, -1, -1)), loss, net, restores[:39], tuple(range(39)))
        self.tells((), lost, BARE_40, (), tuple(range(40)))


class Harm(Case):

    def slow_pair(self, lots, restores, fits):
        """The first two of the lots that fit, all common hosts of which can be lost."""
        gone = {one: set(slow_lost(restores, one)) for one in lots}
        for one in lots:
            for two in lots:
                if fits(one, two) and set(one) & set(two) <= gone[one]:
                    return (one, two)
        return None

    def test_examples(self):
        self.tells(((0, 1), (1, 2)), harmful, T, ZERO, ((1, (2,)),))
        self.tells(None, harmful, T, ZERO, ((1, (0, 2)),))
        self.tells(((0, 1, 2), (0, 1, 2)), harmful, K, ZERO, Q)
        self.tells(None, harmful, R, RING_RULE, ((2, (3,)),))
        self.tells(((1, 2), (2, 3)), forgetful, R, ((2, (3,)),))
        self.tells(((0, 1), (2, 3)), harmful, R, ("one", 4), ())
        self.tells(None, forgetful, R, ())

    def test_beside_a_plain_going_through_all_pairs(self):
        found = [0, 0, 0]
        for seed, net in enumerate(some_nets(45, 150, (3, 4, 5, 6))):
            chance = Random(seed)
            restores = some_restores(chance, net, 6)
            lots = slow_working(net)
            rule = rule_of(net) if seed % 3 else some_rule(chance, len(net[0]), 2)
            votes = dict(enumerate(net[0]))
            logs = {lot: slow_log(votes, rule, set(lot)) for lot in lots}
            unruled = [lot for lot in lots if logs[lot] is None]
            if unruled:
                self.refuses(Unruled, unruled[0], harmful, net, rule, restores)
            else:
                told = self.slow_pair(lots, restores, lambda one, two: logs[one] == logs[two])
                self.tells(told, harmful, net, rule, restores)
                found[0] += told is not None
            told = self.slow_pair(lots, restores, lambda one, two: set(one) & set(two))
            self.tells(told, forgetful, net, restores)
            found[1] += told is not None
            found[2] += bool(unruled)
        self.assertTrue(all(20 < many < 140 for many in found[:2]) and found[2], found)

    def test_restores_that_are_allowed_bring_no_loss_and_no_harm(self):
        for net in some_nets(57, 80, (3, 4, 5, 6)):
            restores = tuple([(x, lot) for x, lot in all_restores(net) if allowed(net, x, lot)][:200])
            for lot in slow_working(net):
                self.tells((), lost, net, restores, lot)
            self.tells(None, forgetful, net, restores)
            self.tells(None, harmful, net, rule_of(net), restores)

    def test_nine_hosts_and_ten(self):
        restores = ((8, (0,)),)
        self.tells(None, forgetful, full_net(9, 9), ())
        self.tells(((0,), (1,)), harmful, full_net(9, 1), ZERO, restores)
        self.tells(((1, 8), (0, 8)), forgetful, full_net(9), restores)
        for net in (full_net(10, 1), RING_40, BARE_40):
            many = len(net[0])
            self.refuses(TooMany, many, harmful, net, ("table", ()), ())
            self.refuses(TooMany, many, forgetful, net, ())
            self.refuses(BadRestores, -1, harmful, net, ZERO, None)
            self.refuses(BadRestores, -1, forgetful, net, None)

    def test_a_rule_that_lacks_a_lot(self):
        self.refuses(Unruled, (0, 4), harmful, R, ("table", (((0, 1), 0),)), ())
        self.refuses(Unruled, (0, 1), harmful, R, ("table", ()), ((2, (3,)),))
        # The unruled lot is told, though there is a pair ahead of it.
        table = ("table", (((0, 1), 0), ((0, 4), 0), ((1, 2), 0), ((2, 3), 0)))
        self.refuses(Unruled, (3, 4), harmful, R, table, ())

    def test_what_is_refused(self):
        for net, error, what in NET_ERRORS:
            self.refuses(getattr(errors, error), what, harmful, net, None, None)
            self.refuses(getattr(errors, error), what, forgetful, net, None)
        self.refuses(BadRule, (), harmful, full_net(10), ("one", 1000), None)
        for restores, error, what in (([], BadRestores, -1), (((1, (2,)),) * 201, TooMany, 201), (((1, (1,)),), BadRestores, 0)):
            self.refuses(error, what, harmful, full_net(10), ZERO, restores)
            self.refuses(error, what, forgetful, full_net(10), restores)

    def test_calls(self):
        args = (K, ZERO, Q)
        ahead = frozen(args)
        self.tells(((0, 1, 2), (0, 1, 2)), harmful, restores=Q, rule=ZERO, net=K)
        self.tells(forgetful(K, Q), forgetful, restores=Q, net=K)
        self.assertEqual(args, ahead)
        self.tells(None, forgetful, ((0,) * 9, (), LARGE), ())


if __name__ == "__main__":
    unittest.main()
