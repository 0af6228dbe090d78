"""Several logs for each lot, [24], and what [25] says of logs."""

import unittest

from fifthhost.counts import logs, once
from fifthhost.errors import BadTimes, NoRule, TooMany
from fifthhost.netedits import beside, renamed, with_link, with_need
from fifthhost.several import each
from fifthhost.walks import ring_numbers
from tests.common import (BARE_40, BROAD, DEEP, EMPTY, FULL_40, LARGE, NO_NUMBERS, NO_TUPLES, ONE, R, RING_40, RINGS, S,
                          TAILED, TEN, TRIANGLES, Case, chained, full_net, hubs_net, linked_net, round_net, slow_fewest,
                          slow_least, slow_working, some_nets)

NO_TIMES = NO_NUMBERS + NO_TUPLES[6:] + (0, -1, 100, LARGE, -LARGE)


def slow_each(net, t):
    """The least number of logs, if each of the working lots stands t times among the points that want a hue."""
    lots = [set(lot) for lot in slow_least(slow_working(net))]
    points = [(lot, copy) for lot in range(len(lots)) for copy in range(t)]
    pairs = tuple((i, j) for j in range(len(points)) for i in range(j)
                  if points[i][0] == points[j][0] or not lots[points[i][0]] & lots[points[j][0]])
    return slow_fewest(len(points), pairs)


class Several(Case):

    def test_examples(self):
        self.tells(5, each, R, 2)
        self.tells(8, each, R, 3)
        self.tells(8, each, TRIANGLES, 4)
        self.tells(6, each, round_net((1,) * 4, 2), 3)
        self.refuses(NoRule, 0, each, RINGS, 1)
        self.refuses(NoRule, 0, each, full_net(5), 1)
        self.tells(0, each, EMPTY, 99)
        self.refuses(BadTimes, True, each, EMPTY, True)
        self.refuses(TooMany, 15, each, hubs_net(15), 1)

    def test_the_larger_example(self):
        self.tells(6, logs, TEN)
        self.refuses(NoRule, 0, each, TEN, 1)

    def test_one_ring(self):
        for many in (3, 4, 5, 6, 7, 40):
            for need in (1, 2, 3, 4, many - 1, many, many + 1):
                for votes in ((1,) * many, tuple(x % 3 for x in range(many)), (LARGE,) * many):
                    for t in (1, 2, 3, 98, 99):
                        net = round_net(votes, need)
                        self.tells(ring_numbers(votes, need, t)[1], each, net, t)
        self.tells(27, each, RING_40, 2)

    def test_one_ring_of_hosts_in_another_order(self):
        net = renamed(round_net((1, 2, 0, 1, 3), 3), (3, 0, 4, 2, 1))
        self.assertNotEqual(net[0], (1, 2, 0, 1, 3))
        for t in (1, 2, 5, 99):
            self.tells(ring_numbers((1, 2, 0, 1, 3), 3, t)[1], each, net, t)

    def test_nets_without_a_long_ring(self):
        for net in (S, ONE, EMPTY, TRIANGLES, BARE_40, with_need(BARE_40, 1), full_net(4), hubs_net(5), hubs_net(14, 5),
                    linked_net(40, [(x, x + 1) for x in range(39)], need=3), chained([full_net(4)] * 13),
                    beside(round_net((1,) * 3, 2), full_net(4)), chained([round_net((2,) * 4, 3)] * 13)):
            for t in (1, 2, 50, 99):
                self.tells(t * once(net), each, net, t)

    def test_of_three_and_four_hosts_both_rules_tell_the_same(self):
        for net in (round_net((1, 1, 1), 1), round_net((1, 2, 3, 1), 3), round_net((1, 1, 1, 1), 2)):
            for t in (1, 2, 99):
                self.tells(t * once(net), each, net, t)
                self.tells(ring_numbers(net[0], net[2], t)[1], each, net, t)

    def test_one_log_each_is_logs(self):
        for net in some_nets(241, 400, (3, 4, 5, 6)):
            try:
                told = each(net, 1)
            except NoRule:
                continue
            self.tells(told, logs, net)

    def test_beside_a_plain_trying(self):
        for net in (R, S, TRIANGLES, round_net((1, 1, 1, 1), 2), round_net((2, 1, 1, 1, 0), 2), full_net(4),
                    round_net((1,) * 7, 3), linked_net(4, [(0, 1), (0, 2), (0, 3)]), hubs_net(5)):
            for t in (1, 2, 3):
                self.tells(slow_each(net, t), each, net, t)

    def test_just_where_there_is_no_rule(self):
        # A long ring that is not all: with a further host, a further piece, a chord, or another ring.
        ring = round_net((1,) * 6, 2)
        for net in (TAILED, beside(R, ((0,), (), 2)), beside(R, R), with_link(ring, 0, 3), with_link(R, 0, 2),
                    chained([R, round_net((1,) * 3, 2)]), RINGS, FULL_40, full_net(8), full_net(6, need=100)):
            self.refuses(NoRule, 0, each, net, 1)
            self.refuses(NoRule, 0, each, net, 99)
        self.tells(3, each, chained([round_net((1,) * 3, 2), round_net((1,) * 4, 2)]), 1)
        self.tells(0, each, round_net((1,) * 6, 100), 7)

    def test_no_rule_ahead_of_too_many(self):
        for parts in ([hubs_net(15), R], [full_net(8), hubs_net(15)], [hubs_net(15), RINGS]):
            self.refuses(NoRule, 0, each, chained(parts), 1)
        self.refuses(TooMany, 15, each, chained([hubs_net(15), full_net(4), hubs_net(16)]), 1)
        self.refuses(TooMany, 40, each, hubs_net(40), 99)
        self.tells(28, each, hubs_net(14), 14)

    def test_wrong_times_ahead_of_all_but_the_net(self):
        for t in NO_TIMES + (BROAD, DEEP):
            for net in (R, EMPTY, RINGS, hubs_net(15), FULL_40):
                self.refuses(BadTimes, t, each, net, t)


if __name__ == "__main__":
    unittest.main()
