"""Nets made from nets, [2] to [4]."""

import unittest
from itertools import combinations, permutations

from fifthhost.errors import (Already, BadHost, BadLot, BadNeed, BadOrder, BadVotes, NoLink, Same, TooMany, Unlike)
from fifthhost.netedits import (beside, cut_net, renamed, with_host, with_link, with_need, with_votes, without_host,
                                without_link)
from tests.common import (BARE_40, BROAD, EMPTY, FULL_40, LARGE, LARGE_40, NO_NUMBERS, NO_TUPLES, ONE, R, RING_40, S,
                          Case)

NO_HOSTS_OF_S = NO_NUMBERS + (-1, 3, LARGE, -LARGE)


class OtherVotes(Case):

    def test_example(self):
        self.tells(((3, 5, 2), ((0, 1), (1, 2)), 4), with_votes, S, 1, 5)

    def test_ordinary_and_edges(self):
        self.tells(((0, 0, 2), S[1], 4), with_votes, S, 0, 0)
        self.tells(((3, 0, LARGE), S[1], 4), with_votes, S, 2, LARGE)
        self.tells(S, with_votes, S, 0, 3)
        self.tells(((1,) * 39 + (7,), (), 3), with_votes, BARE_40, 39, 7)

    def test_no_host(self):
        for x in NO_HOSTS_OF_S:
            self.refuses(BadHost, x, with_votes, S, x, 1)
        self.refuses(BadHost, 0, with_votes, EMPTY, 0, 1)

    def test_no_votes(self):
        for votes in NO_NUMBERS + (-1, -LARGE):
            self.refuses(BadVotes, votes, with_votes, S, 1, votes)

    def test_order_of_errors(self):
        self.refuses(BadHost, 3, with_votes, S, 3, -1)
        self.refuses(BadHost, True, with_votes, S, True, True)


class OtherNeed(Case):

    def test_ordinary_and_edges(self):
        self.tells(((3, 0, 2), S[1], 1), with_need, S, 1)
        self.tells(((3, 0, 2), S[1], LARGE), with_need, S, LARGE)
        self.tells(((), (), 9), with_need, EMPTY, 9)
        self.tells(S, with_need, S, 4)

    def test_no_need(self):
        for need in NO_NUMBERS + (0, -1, -LARGE):
            self.refuses(BadNeed, need, with_need, S, need)


class OtherLinks(Case):

    def test_examples(self):
        self.tells(((3, 0, 2), ((0, 1), (0, 2), (1, 2)), 4), with_link, S, 2, 0)
        self.refuses(Already, (0, 1), with_link, S, 1, 0)
        self.refuses(Same, 1, with_link, S, 1, 1)
        self.tells(((3, 0, 2), ((0, 1),), 4), without_link, S, 2, 1)
        self.refuses(NoLink, (0, 2), without_link, S, 2, 0)

    def test_either_order(self):
        for a, b in ((0, 2), (2, 0)):
            self.tells(((3, 0, 2), ((0, 1), (0, 2), (1, 2)), 4), with_link, S, a, b)
            self.refuses(NoLink, (0, 2), without_link, S, a, b)
        for a, b in ((1, 2), (2, 1)):
            self.tells(((3, 0, 2), ((0, 1),), 4), without_link, S, a, b)
            self.refuses(Already, (1, 2), with_link, S, a, b)

    def test_a_host_is_never_linked_to_itself(self):
        for x in range(3):
            self.refuses(NoLink, (x, x), without_link, S, x, x)
            self.refuses(Same, x, with_link, S, x, x)
        self.refuses(Same, 0, with_link, ONE, 0, 0)
        self.refuses(NoLink, (0, 0), without_link, ONE, 0, 0)

    def test_links_still_rise(self):
        self.tells(((1,) * 5, ((0, 1), (0, 4), (1, 2), (1, 3), (2, 3), (3, 4)), 2), with_link, R, 3, 1)
        self.tells(((1,) * 5, ((0, 1), (0, 4), (2, 3), (3, 4)), 2), without_link, R, 2, 1)

    def test_forty_hosts(self):
        self.tells(((1,) * 40, ((7, 39),), 3), with_link, BARE_40, 39, 7)
        for a, b in ((0, 1), (39, 7), (38, 39)):
            less = without_link(FULL_40, a, b)
            self.assertEqual(len(less[1]), 779)
            self.tells(FULL_40, with_link, less, b, a)
        self.refuses(Already, (7, 39), with_link, FULL_40, 39, 7)

    def test_no_host(self):
        for function in (with_link, without_link):
            for wrong in NO_HOSTS_OF_S:
                self.refuses(BadHost, wrong, function, S, wrong, 1)
                self.refuses(BadHost, wrong, function, S, 1, wrong)
                self.refuses(BadHost, wrong, function, S, wrong, wrong)
            self.refuses(BadHost, 4, function, S, 4, -1)
            self.refuses(BadHost, -1, function, S, -1, 4)
            self.refuses(BadHost, 0, function, EMPTY, 0, 0)


class MoreHosts(Case):

    def test_example(self):
        self.tells(((3, 0, 2, 7), ((0, 1), (1, 2)), 4), with_host, S, 7)

    def test_ordinary_and_edges(self):
        self.tells(((0,), (), 1), with_host, EMPTY, 0)
        self.tells(((3, 0, 2, LARGE), S[1], 4), with_host, S, LARGE)
        self.tells(BARE_40, with_host, ((1,) * 39, (), 3), 1)

    def test_refused(self):
        for votes in NO_NUMBERS + (-1, -LARGE):
            self.refuses(BadVotes, votes, with_host, S, votes)
            self.refuses(BadVotes, votes, with_host, BARE_40, votes)
        for net in (BARE_40, RING_40, FULL_40):
            self.refuses(TooMany, 41, with_host, net, 0)


class FewerHosts(Case):

    def test_examples(self):
        self.tells(((1, 1, 1), ((0, 2), (1, 2)), 2), cut_net, R, (0, 3, 4))
        self.tells(((), (), 4), cut_net, S, ())
        self.tells(((3, 2), (), 4), without_host, S, 1)

    def test_ordinary_and_edges(self):
        self.tells(R, cut_net, R, (0, 1, 2, 3, 4))
        self.tells(((1,), (), 2), cut_net, R, (3,))
        self.tells(EMPTY, cut_net, EMPTY, ())
        self.tells(EMPTY, without_host, ONE, 0)
        self.tells(((3, 0), ((0, 1),), 4), without_host, S, 2)
        self.tells(((0, 2), ((0, 1),), 4), without_host, S, 0)
        self.tells(((1,) * 4, tuple(combinations(range(4), 2)), 3), cut_net, FULL_40, (0, 7, 8, 39))
        self.tells((LARGE_40[0][1:], tuple(combinations(range(39), 2)), LARGE_40[2]), without_host, LARGE_40, 0)
        self.tells(((1,) * 39, tuple((x, x + 1) for x in range(38)), 3), without_host, RING_40, 39)

    def test_without_host_is_cut_net_of_the_others(self):
        for x in range(5):
            self.assertEqual(without_host(R, x), cut_net(R, tuple(y for y in range(5) if y != x)))

    def test_no_lot(self):
        for lot in NO_TUPLES:
            self.refuses(BadLot, -1, cut_net, R, lot)
        for lot, index in (((1, 1), 1), ((0, 5), 1), ((-1,), 0), ((1, 0), 1), ((True,), 0), ((0, 1.0), 1),
                           ((0, 1, "2"), 2), (((0,),), 0), ((None,), 0), (BROAD, 5)):
            self.refuses(BadLot, index, cut_net, R, lot)

    def test_no_host(self):
        for x in NO_HOSTS_OF_S:
            self.refuses(BadHost, x, without_host, S, x)
        self.refuses(BadHost, 0, without_host, EMPTY, 0)


class Renamed(Case):

    def test_examples(self):
        self.tells(((0, 2, 3), ((0, 1), (0, 2)), 4), renamed, S, (1, 2, 0))
        self.tells(((), (), 1), renamed, ((), (), 1), ())

    def test_every_order(self):
        for net in (S, ((1, 2, 3, 4), ((0, 1), (0, 3), (1, 2)), LARGE)):
            many = len(net[0])
            for order in permutations(range(many)):
                new = renamed(net, order)
                self.assertEqual(new[0], tuple(net[0][x] for x in order))
                links = tuple((i, j) for i, j in combinations(range(many), 2)
                              if tuple(sorted((order[i], order[j]))) in net[1])
                self.assertEqual(new[1:], (links, net[2]))

    def test_forty_hosts(self):
        back = tuple(range(39, -1, -1))
        self.tells(FULL_40, renamed, FULL_40, back)
        self.tells(RING_40, renamed, RING_40, back)
        self.tells((LARGE_40[0][::-1],) + LARGE_40[1:], renamed, LARGE_40, back)

    def test_no_order(self):
        wrong = NO_TUPLES + ((), (0, 1), (0, 1, 2, 3), (0, 1, 1), (0, 1, 3), (-1, 0, 1), (1, 2, 3), (0, True, 2),
                             (False, 1, 2), (0, 1.0, 2), (0, "1", 2), (0, None, 2), (0, (1,), 2), (0, [1], 2),
                             ([0], [1], [2]), ("0", 1, None), [0, 1, 2], "012", BROAD, (0, 1, LARGE))
        for order in wrong:
            self.refuses(BadOrder, -1, renamed, S, order)
        self.refuses(BadOrder, -1, renamed, EMPTY, (0,))
        self.refuses(BadOrder, -1, renamed, EMPTY, [])


class Beside(Case):

    def test_examples(self):
        self.tells(((3, 0, 2, 4, 1), ((0, 1), (1, 2), (3, 4)), 4), beside, S, ((4, 1), ((0, 1),), 4))
        self.refuses(Unlike, 0, beside, S, R)

    def test_ordinary_and_edges(self):
        self.tells(((), (), 4), beside, ((), (), 4), ((), (), 4))
        self.tells(S, beside, ((), (), 4), S)
        self.tells(S, beside, S, ((), (), 4))
        self.tells((S[0] + S[0], ((0, 1), (1, 2), (3, 4), (4, 5)), 4), beside, S, S)
        self.tells(BARE_40, beside, ((1,) * 17, (), 3), ((1,) * 23, (), 3))
        self.tells(((5, 0), (), LARGE), beside, ((5,), (), LARGE), ((0,), (), LARGE))

    def test_too_many(self):
        self.refuses(TooMany, 41, beside, BARE_40, ((1,), (), 3))
        self.refuses(TooMany, 80, beside, FULL_40, RING_40)

    def test_order_of_errors(self):
        self.refuses(Unlike, 0, beside, BARE_40, ((1,), (), 2))
        self.refuses(BadNeed, 0, beside, ((), (), 0), (None, (), 1))
        self.refuses(BadNeed, 0, beside, S, ((), (), 0))


if __name__ == "__main__":
    unittest.main()
