"""Nets, [1]."""

import unittest

from fifthhost import errors
from fifthhost.errors import BadLinks, BadNeed, BadNet, BadVotes, TooMany
from fifthhost.nets import is_net, made_net
from tests.common import (BARE_40, BARE_41, BROAD, DEEP, EMPTY, FULL_40, LARGE, LARGE_40, NET_ERRORS, NO_NUMBERS,
                          NO_TUPLES, ONE, R, RING_40, S, TRIANGLES, Case)

NETS = (EMPTY, ONE, R, S, TRIANGLES, BARE_40, RING_40, FULL_40, LARGE_40, ((), (), LARGE),
        ((0, 0), ((0, 1),), LARGE), ((LARGE, 0), (), 1))


class Nets(Case):

    def no_net(self, error, what, thing):
        self.refuses(error, what, made_net, thing)
        self.tells(False, is_net, thing)

    def test_examples(self):
        self.no_net(BadVotes, 1, ((1, True), (), 0))
        self.no_net(BadLinks, 0, ((1, 1), ((1, 0),), 1))
        self.no_net(BadLinks, 1, ((1, 1), ((0, 1), (0, 1)), 0))
        self.no_net(BadNeed, 0, ((), (), 0))
        self.tells(R, made_net, R)
        self.tells(S, made_net, S)

    def test_nets_are_returned_as_they_are(self):
        for net in NETS:
            self.tells(net, made_net, net)
            self.tells(net, made_net, thing=net)
            self.tells(True, is_net, net)
            self.tells(True, is_net, thing=net)

    def test_no_tuple_of_three(self):
        for thing in NO_NUMBERS + NO_TUPLES:
            self.no_net(BadNet, -1, thing)
        for thing in ((), ((),), ((), ()), ((), (), 1, 1), (EMPTY,), list(R), [(), (), 1], "abc"):
            self.no_net(BadNet, -1, thing)

    def test_votes_that_are_no_tuple(self):
        for votes in NO_TUPLES:
            self.no_net(BadVotes, -1, (votes, (), 1))

    def test_too_many_hosts(self):
        self.no_net(TooMany, 41, BARE_41)
        self.no_net(TooMany, len(BROAD), (BROAD, (), 1))

    def test_too_many_hosts_ahead_of_their_votes(self):
        self.no_net(TooMany, 41, ((None,) * 41, None, 0))
        self.no_net(BadVotes, 0, ((None,) * 40, None, 0))

    def test_votes_at_a_place(self):
        for wrong in NO_NUMBERS + (-1, -LARGE, -0.0):
            for place in (0, 1, 4):
                votes = (1,) * place + (wrong,) + (1,) * (4 - place)
                self.no_net(BadVotes, place, (votes, R[1], 2))
        self.no_net(BadVotes, 1, ((1, -1, None), (), 1))
        self.no_net(BadVotes, 39, ((1,) * 39 + (1.0,), (), 1))

    def test_links_that_are_no_tuple(self):
        for links in NO_TUPLES:
            self.no_net(BadLinks, -1, ((1, 1), links, 1))

    def test_links_that_are_no_pairs_of_hosts(self):
        wrong = [(0, 1, 2), (0,), (), [0, 1], "01", None, 1, 0.5, True, (0, 5), (-1, 0), (4, 5), (1, 0), (2, 2),
                 (0, LARGE), (-LARGE, 1), (-1, -1), ((0, 1),), DEEP, BROAD, BROAD[:2] + ((),)]
        wrong += [(0, part) for part in NO_NUMBERS] + [(part, 4) for part in NO_NUMBERS]
        for link in wrong:
            self.no_net(BadLinks, 0, ((1,) * 5, (link,), 1))
            self.no_net(BadLinks, 1, ((1,) * 5, ((0, 1), link, (3, 4)), 1))
        self.no_net(BadLinks, 0, ((), ((0, 1),), 1))
        self.no_net(BadLinks, 0, ((1,), ((0, 0),), 1))

    def test_links_rise(self):
        for links, index in ((((0, 1), (0, 1)), 1), (((0, 2), (0, 1)), 1), (((0, 1), (1, 2), (0, 2)), 2),
                             (((1, 2), (0, 3)), 1), (((0, 1), (0, 3), (0, 2), (9, 9)), 2),
                             (((0, 1), (1, 1), (0, 1)), 1)):
            self.no_net(BadLinks, index, ((1,) * 4, links, 1))
        self.no_net(BadLinks, 780, ((1,) * 40, FULL_40[1] + ((38, 39),), 1))

    def test_need(self):
        for need in NO_NUMBERS + (0, -1, -LARGE, 1.5):
            self.no_net(BadNeed, need, ((1, 1), ((0, 1),), need))

    def test_what_is_wrong_first_is_told(self):
        self.no_net(BadVotes, -1, ([], [], []))
        self.no_net(BadVotes, 0, ((True,), [], 0))
        self.no_net(BadLinks, -1, ((1,), [], 0))
        self.no_net(BadLinks, 0, ((1,), (None,), 0))

    def test_net_errors(self):
        for thing, name, what in NET_ERRORS:
            self.no_net(getattr(errors, name), what, thing)

    def test_numbers_of_many_figures(self):
        large = 10 ** 4199
        self.tells(True, is_net, ((large, 0), ((0, 1),), large))
        self.no_net(BadNeed, -large, ((large, 0), ((0, 1),), -large))


if __name__ == "__main__":
    unittest.main()
