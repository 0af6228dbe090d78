"""Seams, [22] and [23], with the examples of [25]."""

import unittest
from itertools import combinations

from fifthhost.counts import logs, once
from fifthhost.errors import BadHost, BadSeam, BadWhich, TooMany
from fifthhost.lots import votes_of
from fifthhost.netedits import beside, cut_net, with_need, with_votes
from fifthhost.seams import beyond, inner, is_seam, threshold
from tests.common import (BARE_40, BROAD, DEEP, EMPTY, FULL_40, LARGE, NAN, NET_ERRORS, NO_NUMBERS, NO_TUPLES, ONE, R,
                          RING_40, RINGS, S, TAILED, TEN, TRIANGLES, Case, all_nets, chained, full_net, hubs_net,
                          linked_net, round_net, slow_hangs, some_nets)

WHICH = (("once", once), ("logs", logs))
FUNCTIONS = (inner, threshold, beyond)
NO_HOSTS_OF_R = NO_NUMBERS + (-1, 5, LARGE, -LARGE)
NO_WHICH = NO_NUMBERS + NO_TUPLES + ("Once", "LOGS", "log", "both", "once ", " logs", "oncelogs", ("once",), ["logs"],
                                     ("once", "logs"))
# What is no side of R for the host 0, whatever it is linked to.
NO_SIDES = NO_NUMBERS + NO_TUPLES + ((0,), (0, 1), (0, 1, 2, 3, 4), (1, 2), (1,), (1, 2, 3), (2, 3, 4), (4, 3, 2, 1),
                                     (1, 1, 2, 3, 4), (1, 2, 3, 5), (-1, 1, 2, 3, 4), (True, 2, 3, 4), (1, 2, 3, 4.0),
                                     (1.0, 2.0, 3.0, 4.0), (1, 2, 3, 4, 5), [1, 2, 3, 4], "1234", (1, 2, 3, "4"),
                                     (1, 2, 3, (4,)), (1, 2, 3, [4]), ((1, 2, 3, 4),), (1, 2, 3, None), (1, NAN, 3, 4),
                                     (1, 2, 3, LARGE))


def slow_seam(net, v, side):
    """Whether a host and a lot of hosts are a seam, by the words of [22]."""
    if not side or v in side:
        return False
    ends = [(a, b) for one, two in net[1] for a, b in ((one, two), (two, one)) if a in side]
    return all(b == v or b in side for _, b in ends)


def all_seams(net):
    """All seams of a small net."""
    every = range(len(net[0]))
    for v in every:
        for size in range(1, len(net[0])):
            for side in combinations(every, size):
                if slow_seam(net, v, side):
                    yield v, side


def slow_threshold(net, v, side, number):
    """The threshold, trying one z after another."""
    lot = tuple(sorted(side + (v,)))
    part = cut_net(net, lot)
    least = number(cut_net(net, side))
    z = 0
    while number(with_votes(part, lot.index(v), z)) <= least:
        z += 1
    return z


class Seams(Case):

    def seam(self, net, v, side, which, wanted):
        """What is told of a seam, as a triple (inner, threshold, beyond)."""
        self.tells(True, is_seam, net, v, side)
        for function, one in zip(FUNCTIONS, wanted):
            self.tells(one, function, net, v, side, which)

    def holds(self, net, v, side):
        """What [22] and [23] say of a seam of a net small enough to try one z after another."""
        rest = tuple(x for x in range(len(net[0])) if x not in side)
        for which, number in WHICH:
            least = slow_threshold(net, v, side, number)
            more = with_votes(net, v, net[0][v] + net[2] - least)
            self.seam(net, v, side, which, (number(cut_net(net, side)), least, cut_net(more, rest)))
            self.adds_up(net, v, side)

    def adds_up(self, net, v, side):
        """Both numbers are sums, and the threshold is at most the need."""
        for which, number in WHICH:
            told = inner(net, v, side, which) + number(beyond(net, v, side, which))
            self.assertEqual(number(net), told, (net, v, side, which))
            self.assertTrue(0 <= threshold(net, v, side, which) <= net[2])


class Ordinary(Seams):

    def test_examples(self):
        triangle = ((1, 1, 1), ((0, 1), (0, 2), (1, 2)), 2)
        for which in ("once", "logs"):
            self.seam(TRIANGLES, 2, (3, 4), which, (1, 2, triangle))
        self.seam(RINGS, 4, (5, 6, 7, 8), "logs", (2, 1, ((1, 1, 1, 1, 2), R[1], 2)))
        self.seam(RINGS, 4, (5, 6, 7, 8), "once", (2, 2, R))
        self.seam(TAILED, 5, (0, 1, 2, 3, 4), "logs", (2, 0, ((2, 1), ((0, 1),), 2)))
        self.seam(TAILED, 5, (0, 1, 2, 3, 4), "once", (2, 1, ((1, 1), ((0, 1),), 2)))
        self.seam(R, 0, (1, 2, 3, 4), "logs", (2, 1, ((2,), (), 2)))
        self.seam(R, 0, (1, 2, 3, 4), "once", (2, 2, ((1,), (), 2)))
        for which in ("once", "logs"):
            self.seam(((5, 0), (), 3), 1, (0,), which, (1, 3, ((0,), (), 3)))

    def test_examples_of_what_is_refused(self):
        for v, side in ((0, (1, 2)), (0, ()), (0, (0, 1))):
            self.tells(False, is_seam, R, v, side)
        for function in FUNCTIONS:
            self.refuses(BadSeam, -1, function, R, 0, (1, 2), "both")
            self.refuses(BadWhich, "both", function, R, 0, (1, 2, 3, 4), "both")
            self.refuses(BadHost, 5, function, R, 5, None, "both")

    def test_ten_hosts(self):
        ring = ((0, 1), (0, 4), (1, 2), (2, 3), (3, 4))
        first = ((1, 2, 1, 2, 2, 3), ((0, 1), (0, 4), (1, 2), (2, 3), (2, 5), (3, 4)), 3)
        self.seam(TEN, 5, (6, 7, 8, 9), "logs", (2, 1, first))
        self.seam(first, 2, (5,), "logs", (1, 3, ((1, 2, 1, 2, 2), ring, 3)))
        self.tells(3, logs, ((1, 2, 1, 2, 2), ring, 3))
        first = ((1, 2, 1, 2, 2, 1), first[1], 3)
        self.seam(TEN, 5, (6, 7, 8, 9), "once", (2, 3, first))
        self.seam(first, 2, (5,), "once", (0, 2, ((1, 2, 2, 2, 2), ring, 3)))
        self.tells(2, once, ((1, 2, 2, 2, 2), ring, 3))

    def test_all_seams_of_small_nets(self):
        for many in range(1, 5):
            for net in all_nets(many):
                for votes, need in (((1, 1, 1, 1), 2), ((1, 2, 0, 3), 3), ((2, 2, 1, 1), 4)):
                    one = (votes[:many], net[1], need)
                    for v, side in all_seams(one):
                        self.holds(one, v, side)

    def test_seams_of_other_nets(self):
        for net in some_nets(22, 120, (5, 6, 7)):
            for v, side in list(all_seams(net))[::7]:
                self.holds(net, v, side)

    def test_seams_of_the_nets_of_the_document(self):
        for net in (R, TRIANGLES, TAILED, S, RINGS, TEN, full_net(7, 3), hubs_net(7, 3)):
            for v, side in list(all_seams(net))[::3]:
                self.holds(net, v, side)

    def test_is_seam_of_every_lot(self):
        for net in (R, TRIANGLES, TAILED, S, full_net(4), hubs_net(5), linked_net(5, [(0, 1), (2, 3)])):
            every = range(len(net[0]))
            for v in every:
                for size in range(len(net[0]) + 1):
                    for side in combinations(every, size):
                        self.tells(slow_seam(net, v, side), is_seam, net, v, side)

    def test_the_votes_of_the_host_itself_do_not_matter(self):
        for net in (R, TRIANGLES, RINGS, TAILED, TEN):
            for v, side in list(all_seams(net))[::11]:
                for votes in (0, 1, net[2], LARGE):
                    other = with_votes(net, v, votes)
                    for which, _ in WHICH:
                        self.tells(inner(net, v, side, which), inner, other, v, side, which)
                        self.tells(threshold(net, v, side, which), threshold, other, v, side, which)
                    self.adds_up(other, v, side)

    def test_the_threshold_is_what_a_lot_beside_the_host_leaves_of_the_need(self):
        for net in some_nets(23, 60, (5, 6)):
            for v, side in list(all_seams(net))[::3]:
                lots = [lot for size in range(len(side) + 1) for lot in combinations(side, size)]
                held = [votes_of(net, lot) for lot in lots if slow_hangs(net, lot + (v,))]
                for which, _ in WHICH:
                    z = threshold(net, v, side, which)
                    self.assertTrue(z == 0 or net[2] - z in held)


class Sides(Seams):

    def test_several_pieces(self):
        star = linked_net(7, [(x, 3) for x in range(3)] + [(3, x) for x in range(4, 7)], need=3)
        self.holds(star, 3, (0, 6))
        self.holds(star, 3, (0, 1, 2, 4, 5, 6))
        both = beside(chained([R, R, R]), chained([TRIANGLES, R]))
        self.seam(both, 4, (5, 6, 7, 8, 9, 10, 11, 12), "once", (4, 2, beside(R, chained([TRIANGLES, R]))))
        self.adds_up(both, 4, (0, 1, 2, 3))
        self.adds_up(both, 4, (0, 1, 2, 3, 5, 6, 7, 8, 9, 10, 11, 12))
        self.adds_up(both, 8, (9, 10, 11, 12, 13, 14, 15, 16, 17, 18, 19, 20, 21))
        fans = linked_net(9, [(0, x) for x in range(1, 9)] + [(1, 2), (3, 4), (5, 6), (7, 8)], need=4)
        self.seam(fans, 0, (1, 2, 5, 6), "logs", (0, 0, ((5, 1, 1, 1, 1), ((0, 1), (0, 2), (0, 3), (0, 4), (1, 2),
                                                                         (3, 4)), 4)))
        self.holds(fans, 0, (1, 2))
        self.holds(fans, 0, (1, 2, 3, 4, 5, 6, 7, 8))

    def test_sides_that_are_not_linked_to_the_host(self):
        net = beside(beside(R, full_net(5)), TRIANGLES)
        for which, wanted in (("once", 2), ("logs", 3)):
            self.seam(net, 0, (5, 6, 7, 8, 9), which, (wanted, 2, beside(R, TRIANGLES)))
            self.seam(net, 12, (0, 1, 2, 3, 4, 5, 6, 7, 8, 9), which, (2 * wanted, 2, TRIANGLES))
        self.adds_up(net, 12, (0, 1, 2, 3, 4, 13, 14))
        self.adds_up(net, 0, (1, 2, 3, 4, 5, 6, 7, 8, 9))
        self.seam(BARE_40, 39, tuple(range(39)), "logs", (0, 3, ((1,), (), 3)))
        self.seam(with_need(BARE_40, 1), 7, (0, 39), "once", (2, 1, ((1,) * 38, (), 1)))

    def test_all_hosts_but_one(self):
        for net in (R, TRIANGLES, RINGS, TAILED, TEN, full_net(7), full_net(6, 3), hubs_net(9, 4), RING_40):
            every = tuple(range(len(net[0])))
            for v in every:
                self.adds_up(net, v, every[:v] + every[v + 1:])

    def test_hosts_that_have_the_need(self):
        for net in (R, TRIANGLES, RINGS, TAILED, full_net(6), hubs_net(6)):
            every = tuple(range(len(net[0])))
            strong = with_votes(with_votes(net, 1, net[2]), 3, LARGE)
            for v in every:
                self.holds(strong, v, every[:v] + every[v + 1:])

    def test_forty_hosts(self):
        for parts in ([full_net(7)] * 6, [hubs_net(14)] * 3, [R] * 9, [full_net(4)] * 13, [RINGS] * 4):
            net = chained(parts)
            every = tuple(range(len(net[0])))
            for need in (2, 3, 5, 9):
                one = (tuple((x * x + 1) % 3 for x in every), net[1], need)
                cut = len(parts[0][0]) - 1
                self.adds_up(one, cut, every[:cut])
                self.adds_up(one, cut, every[cut + 1:])
                self.adds_up(one, 0, every[1:])
        every = tuple(range(40))
        self.seam(RING_40, 0, every[1:], "once", (13, 3, ((1,), (), 3)))
        self.seam(RING_40, 0, every[1:], "logs", (13, 1, ((3,), (), 3)))

    def test_large_numbers(self):
        for net in (R, TRIANGLES, RINGS, TAILED, TEN, full_net(7, 3), hubs_net(7, 3)):
            large = (tuple(votes * LARGE for votes in net[0]), net[1], net[2] * LARGE)
            for v, side in list(all_seams(net))[::5]:
                for which, _ in WHICH:
                    self.tells(inner(net, v, side, which), inner, large, v, side, which)
                    self.tells(threshold(net, v, side, which) * LARGE, threshold, large, v, side, which)
                self.adds_up(large, v, side)
        every = tuple(range(14))
        votes = tuple(LARGE + 3 ** (x * 20) for x in every)
        for net in ((votes, hubs_net(14)[1], 7 * LARGE), (votes, round_net(votes, 1)[1], 3 * LARGE + 10 ** 99)):
            for v in every:
                self.adds_up(net, v, every[:v] + every[v + 1:])


class Wrong(Seams):

    def test_no_host(self):
        for v in NO_HOSTS_OF_R:
            self.tells(False, is_seam, R, v, (1, 2, 3, 4))
            for function in FUNCTIONS:
                for side, which in (((1, 2, 3, 4), "once"), (None, "once"), ((), None), ((1, 2, 3, 4), None)):
                    self.refuses(BadHost, v, function, R, v, side, which)
        for net in (EMPTY, ONE):
            self.tells(False, is_seam, net, len(net[0]), ())
            self.refuses(BadHost, len(net[0]), inner, net, len(net[0]), (), "once")

    def test_no_side(self):
        for side in NO_SIDES + ((), DEEP, BROAD):
            self.tells(False, is_seam, R, 0, side)
            for function in FUNCTIONS:
                for which in ("once", "logs", "both", None):
                    self.refuses(BadSeam, -1, function, R, 0, side, which)
        for function in FUNCTIONS:
            self.refuses(BadSeam, -1, function, ONE, 0, (), "once")
            self.refuses(BadSeam, -1, function, ONE, 0, (0,), "once")
            self.refuses(BadSeam, -1, function, FULL_40, 0, tuple(range(39)), "once")

    def test_no_seam(self):
        for net in (R, TRIANGLES, S, full_net(4)):
            for v in range(len(net[0])):
                for size in range(len(net[0])):
                    for side in combinations(range(len(net[0])), size):
                        if not slow_seam(net, v, side):
                            for function in FUNCTIONS:
                                self.refuses(BadSeam, -1, function, net, v, side, "logs")

    def test_neither_of_the_two(self):
        for which in NO_WHICH + (DEEP, BROAD):
            for function in FUNCTIONS:
                self.refuses(BadWhich, which, function, R, 0, (1, 2, 3, 4), which)
                self.refuses(BadWhich, which, function, FULL_40, 0, tuple(range(1, 40)), which)

    def test_too_large_blocks_of_host_and_side_alone(self):
        net = chained([full_net(8), R, hubs_net(15), full_net(9)])
        every = tuple(range(len(net[0])))
        self.assertEqual(len(every), 34)
        for which, number in WHICH:
            self.refuses(TooMany, 8, number, net)
            for function in FUNCTIONS:
                self.refuses(TooMany, 8, function, net, 7, every[:7], which)
                self.refuses(TooMany, 9, function, net, 7, every[8:], which)
                self.refuses(TooMany, 9, function, net, 25, every[26:], which)
                self.refuses(TooMany, 9, function, net, 11, every[12:], which)
                self.refuses(TooMany, 8, function, net, 11, every[:11], which)
                self.refuses(TooMany, 8, function, net, 25, every[:25], which)
        hubs = chained([full_net(8), R, hubs_net(15)])
        for which, _ in WHICH:
            for function in FUNCTIONS:
                self.refuses(TooMany, 15, function, hubs, 11, every[12:26], which)

    def test_other_blocks_may_be_too_large(self):
        net = chained([R, full_net(20), hubs_net(17)])
        self.seam(net, 4, (0, 1, 2, 3), "logs", (2, 1, with_votes(cut_net(net, tuple(range(4, 40))), 0, 2)))
        self.seam(net, 4, (0, 1, 2, 3), "once", (2, 2, cut_net(net, tuple(range(4, 40)))))
        lone = beside(full_net(30), full_net(7))
        self.seam(lone, 3, tuple(range(30, 37)), "logs", (5, 2, full_net(30)))
        # The host itself may stand in blocks that are too large, as long as the side does not.
        self.seam(lone, 36, (30, 31, 32, 33, 34, 35), "once", (3, 2, beside(full_net(30), ((1,), (), 2))))

    def test_wrong_nets_come_first(self):
        for net, _, _ in NET_ERRORS:
            for v, side in ((0, (1,)), (None, None), (0, ())):
                self.tells(False, is_seam, net, v, side)


if __name__ == "__main__":
    unittest.main()
