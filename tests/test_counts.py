"""The two numbers, [19] and [20], with the examples of [25]."""

import unittest
from itertools import combinations

from fifthhost.blocks import blocks, hubs_of, kind, round_of
from fifthhost.counts import logs, once
from fifthhost.errors import TooMany
from fifthhost.hues import fewest
from fifthhost.listing import least_working, working
from fifthhost.longrings import long_ring
from fifthhost.lots import whole
from fifthhost.netedits import beside, cut_net, renamed, with_link, with_need, with_votes, without_host, without_link
from fifthhost.walks import ring_numbers
from tests.common import (BARE_40, EMPTY, FULL_40, LARGE, LARGE_40, ONE, R, RING_40, RINGS, S, TAILED, TEN, TRIANGLES,
                          Case, all_nets, apart_pairs, chained, full_net, hubs_net, linked_net, round_net, slow_least,
                          slow_logs, slow_once, slow_working, some_nets)

SEVEN = round_net((1,) * 7, 3)
SIX = round_net((3, 1, 2, 2, 1, 3), 4)


class Two(Case):

    def both(self, net, wanted_once, wanted_logs):
        """The two numbers of a net are these."""
        self.tells(wanted_once, once, net)
        self.tells(wanted_logs, logs, net)


class Numbers(Two):

    def test_examples(self):
        self.both(R, 2, 3)
        self.both(full_net(5), 2, 3)
        self.both(SEVEN, 2, 3)
        self.both(SIX, 3, 3)
        self.both(EMPTY, 0, 0)
        self.refuses(TooMany, 8, once, full_net(8))
        self.refuses(TooMany, 8, logs, full_net(8))
        self.both(RING_40, 13, 14)

    def test_examples_of_seams(self):
        self.both(TRIANGLES, 2, 2)
        self.both(RINGS, 4, 5)
        self.both(TAILED, 3, 3)
        self.both(TEN, 4, 6)

    def test_hosts_and_links(self):
        self.both(ONE, 0, 0)
        self.both(((1,), (), 1), 1, 1)
        self.both(((LARGE,), (), LARGE + 1), 0, 0)
        self.both(((5, 4), ((0, 1),), 5), 1, 1)
        self.both(((5, 5), ((0, 1),), 5), 2, 2)
        self.both(((3, 2), ((0, 1),), 5), 1, 1)
        self.both(((3, 2), (), 5), 0, 0)
        self.both(S, 1, 1)
        self.both(((1,) * 4, ((0, 1), (1, 2), (2, 3)), 2), 2, 2)

    def test_every_small_net_beside_a_plain_listing(self):
        for many in range(5):
            for net in all_nets(many):
                for votes, need in (((1, 1, 1, 1), 2), ((1, 2, 0, 3), 3), ((2, 2, 1, 1), 4), ((0, 0, 1, 5), 1),
                                    ((4, 3, 2, 1), 4), ((1, 1, 1, 1), 4), ((1, 1, 1, 1), 5)):
                    one = (votes[:many], net[1], need)
                    lots = slow_working(one)
                    self.both(one, slow_once(lots), slow_logs(lots))

    def test_nets_of_five_beside_a_plain_listing(self):
        shares = ((1, 1, 1, 1, 1), (2, 1, 1, 0, 1), (3, 2, 2, 1, 1))
        for index, net in enumerate(all_nets(5)):
            one = (shares[index % 3], net[1], 2 + index % 2)
            lots = working(one)
            self.both(one, slow_once(slow_least(lots)), slow_logs(lots))

    def test_other_nets_beside_a_plain_listing(self):
        kinds = set()
        seen = 0
        for net in some_nets(19, 1200, (5, 6, 7, 8, 9)):
            told = [(kind(net, block), len(block)) for block in blocks(net)]
            if max([size for name, size in told if name == "other"], default=0) <= 7:
                least = least_working(net)
                self.both(net, slow_once(least), slow_logs(least))
                kinds |= {name for name, _ in told}
                seen += once(net) < logs(net)
        self.assertEqual(kinds, {"host", "link", "ring", "four", "hubs", "other"})
        self.assertGreater(seen, 5)

    def test_all_linked(self):
        # Lots of k of n hosts want n - 2k + 2 logs, as is known of Kneser's graphs.
        for many in range(2, 8):
            for need in range(1, many + 1):
                wanted = max(1, many - 2 * need + 2)
                self.both(full_net(many, need), many // need, wanted)

    def test_need_above_all_votes(self):
        for net in (R, SIX, SEVEN, RINGS, TEN, RING_40, BARE_40, full_net(7), hubs_net(14)):
            self.both(with_need(net, sum(net[0]) + 1), 0, 0)
            if len(whole(net)) == 1:
                self.both(with_need(net, sum(net[0])), 1, 1)

    def test_no_votes(self):
        for net in (R, RINGS, RING_40, BARE_40, full_net(7), hubs_net(14)):
            self.both(((0,) * len(net[0]), net[1], 1), 0, 0)
            self.both(((0, 1) + (0,) * (len(net[0]) - 2), net[1], 1), 1, 1)

    def test_one_host_that_has_the_need(self):
        for net in (R, SIX, RINGS, TEN, full_net(7), hubs_net(14), TRIANGLES):
            for x in range(len(net[0])):
                for votes in (net[2], net[2] + 1, LARGE):
                    strong = with_votes(net, x, votes)
                    rest = without_host(net, x)
                    self.both(strong, 1 + once(rest), 1 + logs(rest))

    def test_all_hosts_have_the_need(self):
        for net in (BARE_40, RING_40, chained([full_net(7)] * 6)):
            self.both(with_need(net, 1), len(net[0]), len(net[0]))

    def test_large_numbers(self):
        for net in list(some_nets(27, 150)) + [R, RINGS, TEN, TAILED, SIX, SEVEN, full_net(7, 3), hubs_net(12, 4)]:
            large = (tuple(votes * LARGE for votes in net[0]), net[1], net[2] * LARGE)
            self.both(large, once(net), logs(net))
            self.both(with_need(large, large[2] - LARGE + 1), once(net), logs(net))
        little = (tuple(LARGE + x for x in range(5)), R[1], 2 * LARGE + 5)
        self.both(little, 2, 2)
        self.both(with_need(little, 2 * LARGE + 1), 2, 3)
        self.both(with_need(little, 2 * LARGE + 7), 2, 2)
        self.both(with_need(little, 2 * LARGE + 8), 1, 1)


class Refused(Two):

    def refused(self, net, hosts):
        self.refuses(TooMany, hosts, once, net)
        self.refuses(TooMany, hosts, logs, net)

    def test_others(self):
        self.both(full_net(7), 3, 5)
        for many in (8, 9, 40):
            self.refused(full_net(many), many)
        self.refused(LARGE_40, 40)
        wheel = linked_net(8, [(0, x) for x in range(1, 8)] + [(x, x + 1) for x in range(1, 7)] + [(1, 7)])
        self.refused(wheel, 8)
        self.refused(round_net((1,) * 8, 1)[:1] + (tuple(sorted(round_net((1,) * 8, 1)[1] + ((0, 2),))), 1), 8)

    def test_hubs(self):
        for linked in (False, True):
            self.both(hubs_net(14, 2, linked), 2, 2)
            self.both(hubs_net(14, 8, linked), 1, 1)
            for many in (15, 16, 40):
                self.refused(hubs_net(many, 2, linked), many)

    def test_all_other_kinds_may_have_any_size(self):
        for many in range(5, 41):
            self.both(round_net((1,) * many, 2), many // 2, (many + 1) // 2)
        self.both(linked_net(40, [(0, x) for x in range(1, 40)], need=2), 1, 1)
        self.both(linked_net(40, [(x, x + 1) for x in range(39)], need=3), 13, 13)

    def test_whatever_votes_and_need_are(self):
        for votes, need in ((0, 1), (5, 1), (1, LARGE), (LARGE, LARGE)):
            self.refused(((votes,) * 8, full_net(8)[1], need), 8)
            self.refused(((votes,) * 15, hubs_net(15)[1], need), 15)

    def test_the_first_one_that_is_too_large(self):
        self.refused(chained([full_net(9), full_net(8)]), 8)
        self.refused(chained([hubs_net(15), full_net(8), round_net((1,) * 10, 2)]), 8)
        self.refused(chained([hubs_net(15), full_net(16)]), 15)
        self.refused(chained([full_net(16), hubs_net(15)]), 15)
        self.refused(chained([hubs_net(14), full_net(7), hubs_net(15)]), 15)
        self.refused(chained([hubs_net(14), full_net(8), full_net(7)]), 8)
        self.refused(beside(full_net(12), hubs_net(28)), 12)
        self.refused(beside(beside(RINGS, full_net(10)), hubs_net(21)), 10)

    def test_just_small_enough(self):
        chain = chained([hubs_net(14), full_net(7), hubs_net(14), round_net((1,) * 8, 2)])
        self.assertEqual(len(chain[0]), 40)
        self.assertLessEqual(once(chain), logs(chain))


class WhatHolds(Two):

    def nets(self):
        yield from some_nets(20, 250)
        yield from (R, TRIANGLES, RINGS, TAILED, TEN, SIX, SEVEN, full_net(7, 3), hubs_net(9, 3))

    def test_at_most_the_hosts(self):
        for net in self.nets():
            self.assertTrue(once(net) <= logs(net) <= len(net[0]))
            self.assertEqual(once(net) == 0, logs(net) == 0)

    def test_sums_over_pieces(self):
        parts = [R, full_net(5), TRIANGLES, full_net(7), hubs_net(14), RINGS]
        nets = [beside(one, two) for one, two in combinations(parts, 2)]
        nets += [net for net in some_nets(21, 300) if len(whole(net)) > 1]
        for net in nets:
            told = [cut_net(net, lot) for lot in whole(net)]
            self.both(net, sum(map(once, told)), sum(map(logs, told)))

    def test_a_link_more_or_more_votes(self):
        for net in self.nets():
            for a, b in combinations(range(len(net[0])), 2):
                if (a, b) not in net[1] and len(net[0]) <= 7:
                    more = with_link(net, a, b)
                    self.assertIn(once(more) - once(net), (0, 1))
                    self.assertIn(logs(more) - logs(net), (0, 1))
            for x in range(len(net[0])):
                for votes in (1, 2, net[2], LARGE):
                    more = with_votes(net, x, net[0][x] + votes)
                    self.assertIn(once(more) - once(net), (0, 1))
                    self.assertIn(logs(more) - logs(net), (0, 1))

    def test_the_same_without_a_long_ring(self):
        for net in self.nets():
            if long_ring(net) is None:
                self.assertEqual(once(net), logs(net))
            else:
                row = long_ring(net)[:5]
                ones = tuple(int(x in row) for x in range(len(net[0])))
                self.both((ones, net[1], 2), 2, 3)

    def test_five_of_a_longer_ring(self):
        for many in (5, 6, 17, 40):
            for begin in (0, many - 2):
                votes = [0] * many
                for k in range(5):
                    votes[(begin + k) % many] = 1
                self.both(round_net(votes, 2), 2, 3)

    def test_rings_alone(self):
        for votes in ((1, 1, 1), (2, 0, 1, 3), (1, 2, 1, 2, 1), (3, 1, 2, 2, 1, 3, 0, 0, 1), (5, 1, 4, 1, 3) * 8):
            for need in range(1, min(15, sum(votes) + 2)):
                net = round_net(votes, need)
                self.both(net, *ring_numbers(votes, need, 1))
                order = tuple(range(len(votes)))[::2] + tuple(range(len(votes)))[1::2]
                other = renamed(net, order)
                row = tuple(other[0][x] for x in round_of(other, tuple(sorted(order))))
                self.both(other, *ring_numbers(row, need, 1))

    def test_hubs_alone(self):
        for many in range(5, 11):
            for linked in (False, True):
                for votes in ((1,) * 14, (1, 2, 3, 4, 5, 1, 2, 3, 4, 5), (0, 5, 1, 1, 2, 2, 3, 3, 1, 1)):
                    for need in range(max(votes[:many]) + 1, sum(votes[:many]) + 2):
                        net = (votes[:many], hubs_net(many, 2, linked)[1], need)
                        one, two = hubs_of(net, tuple(range(many)))
                        others = [x for x in range(many) if x not in (one, two)]
                        parted = [votes[one] + sum(votes[x] for x in lot) for size in range(many - 1)
                                  for lot in combinations(others, size)]
                        total = sum(votes[:many])
                        wanted = int(total >= need)
                        if any(held >= need and total - held >= need for held in parted):
                            wanted = 2
                        self.both(net, wanted, wanted)

    def test_hosts_links_and_rings(self):
        for net in some_nets(22, 400, (6, 7, 8, 9)):
            told = [(kind(net, block), len(block)) for block in blocks(net)]
            if all(name in ("host", "link", "ring") for name, _ in told):
                rings = sum(name == "ring" and size >= 5 for name, size in told)
                self.assertLessEqual(logs(net), once(net) + rings)
                self.assertLessEqual(2 * logs(net), 3 * once(net))

    def test_fewest_of_the_least_working_lots(self):
        for net in some_nets(23, 200):
            least = least_working(net)
            self.tells(fewest(len(least), apart_pairs(least)), logs, net)

    def test_renamed(self):
        for net in (RINGS, TEN, TAILED, TRIANGLES, chained([full_net(7, 3), R[:2] + (3,), hubs_net(9, 3)])):
            every = tuple(range(len(net[0])))
            for order in (every[::-1], every[::2] + every[1::2], every[3:] + every[:3]):
                self.both(renamed(net, order), once(net), logs(net))


class Forty(Two):

    def test_many_pieces(self):
        net = EMPTY[:2] + (2,)
        for _ in range(8):
            net = beside(net, R)
        self.both(net, 16, 24)
        net = EMPTY[:2] + (2,)
        for _ in range(5):
            net = beside(net, full_net(7))
        self.both(beside(net, full_net(5)), 17, 28)

    def test_many_blocks_at_one_host(self):
        links = {pair for k in range(6) for pair in combinations((0,) + tuple(range(1 + 6 * k, 7 + 6 * k)), 2)}
        # Six hosts that are all linked have the numbers 3 and 4, and 3 and 5 with a seventh one.
        self.both(linked_net(40, links, need=2), 18, 25)
        rings = {tuple(sorted(pair)) for k in range(9) for pair in zip((0,) + tuple(range(1 + 4 * k, 5 + 4 * k)),
                                                                       tuple(range(1 + 4 * k, 5 + 4 * k)) + (0,))}
        self.both(linked_net(40, rings, need=2), 18, 19)

    def test_chains(self):
        self.assertEqual(chained([R] * 2), RINGS)
        fours = chained([full_net(4)] * 13)
        for need, wanted in ((2, 20), (20, 2), (21, 1), (40, 1), (41, 0)):
            self.both(with_need(fours, need), wanted, wanted)
        # For logs the last ring lends its cut a vote, which then works alone and leaves rows of hosts behind it.
        for many in range(1, 10):
            self.both(chained([R] * many), 2 * many, 2 * many + 1)

    def test_without_links(self):
        self.both(BARE_40, 0, 0)
        self.both(((3,) * 40, (), 3), 40, 40)
        self.both(without_link(RING_40, 0, 39), 13, 13)

    def test_refused(self):
        self.refuses(TooMany, 40, once, FULL_40)
        self.refuses(TooMany, 40, logs, FULL_40)


if __name__ == "__main__":
    unittest.main()
