"""Rings and long rings, [13] and [14]."""

import unittest
from itertools import combinations, permutations
from random import Random
from time import perf_counter

from fifthhost.blocks import blocks, kind
from fifthhost.longrings import long_ring, ring_right, some_ring
from fifthhost.netedits import beside, renamed, with_link, without_link
from tests.common import (BARE_40, BROAD, DEEP, EMPTY, FULL_40, LARGE_40, NAN, NET_ERRORS, NO_NUMBERS, NO_TUPLES, ONE,
                          R, RING_40, RINGS, S, TRIANGLES, Case, all_nets, alike, chained, full_net, hubs_net,
                          linked_net, plain, round_net, some_nets)

FULL_5 = full_net(5)
ALL_40 = tuple(range(40))


def slow_ring(net, row):
    """Whether a row of hosts is a ring, by links looked up one by one."""
    pairs = [tuple(sorted((row[i - 1], row[i]))) for i in range(len(row))]
    return len(row) >= 3 and len(set(row)) == len(row) and all(pair in net[1] for pair in pairs)


def slow_lengths(net):
    """The lengths of all rings of a small net, by trying all rows of hosts."""
    found = set()
    for size in range(3, len(net[0]) + 1):
        for lot in combinations(range(len(net[0])), size):
            if any(slow_ring(net, lot[:1] + row) for row in permutations(lot[1:])):
                found.add(size)
    return found


class Rings(Case):

    def a_ring(self, net, least=3):
        """What is told for a net with rings: a right tuple of plain hosts, and the same again."""
        function = some_ring if least == 3 else long_ring
        row = function(net)
        self.assertIs(type(row), tuple)
        self.assertTrue(all(type(x) is int for x in row))
        self.assertGreaterEqual(len(row), least)
        self.assertTrue(slow_ring(net, row), row)
        self.tells(True, ring_right, net, row)
        self.tells(row, function, net)
        return row

    def test_examples(self):
        for row in ((0, 1, 2, 3, 4), (0, 2, 1, 4, 3), (3, 1, 2)):
            self.tells(True, ring_right, FULL_5, row)
        for row in ((0, 1), (0, 1, 2, 0), [0, 1, 2], (0, True, 2)):
            self.tells(False, ring_right, FULL_5, row)
        self.assertEqual(len(self.a_ring(TRIANGLES)), 3)
        self.tells(None, long_ring, TRIANGLES)
        six = round_net((1,) * 6, 1)
        self.assertEqual(sorted(self.a_ring(six, 5)), [0, 1, 2, 3, 4, 5])

    def test_no_rings(self):
        row_40 = without_link(RING_40, 17, 18)
        star = linked_net(40, [(5, x) if x > 5 else (x, 5) for x in ALL_40 if x != 5])
        for net in (EMPTY, ONE, S, linked_net(2, [(0, 1)]), linked_net(2, []), BARE_40, row_40, star):
            self.tells(None, some_ring, net)
            self.tells(None, long_ring, net)

    def test_rings_of_each_size(self):
        for many in range(3, 41):
            net = round_net((0,) * many, 7)
            self.assertEqual(len(self.a_ring(net)), many)
            if many < 5:
                self.tells(None, long_ring, net)
            else:
                self.assertEqual(len(self.a_ring(net, 5)), many)

    def test_a_ring_behind_long_tails(self):
        tails = [(x, x + 1) for x in range(39)] + [(20, 22)]
        self.assertEqual(sorted(self.a_ring(linked_net(40, tails))), [20, 21, 22])
        self.tells(None, long_ring, linked_net(40, tails))
        long_one = linked_net(40, [(x, x + 1) for x in range(39)] + [(20, 24), (2, 5)])
        self.assertEqual(sorted(self.a_ring(long_one, 5)), [20, 21, 22, 23, 24])

    def test_every_small_net(self):
        for many in range(6):
            for net in all_nets(many):
                lengths = slow_lengths(net)
                if not lengths:
                    self.tells(None, some_ring, net)
                else:
                    self.assertIn(len(self.a_ring(net)), lengths)
                if max(lengths, default=0) < 5:
                    self.tells(None, long_ring, net)
                else:
                    self.a_ring(net, 5)

    def test_none_just_where_the_kinds_tell_so(self):
        for net in some_nets(13, 400, (5, 6, 7, 8, 9)):
            kinds = [(kind(net, block), len(block)) for block in blocks(net)]
            self.assertEqual(some_ring(net) is None, all(size < 3 for _, size in kinds))
            long_one = any(told == "other" or told == "ring" and size >= 5 for told, size in kinds)
            self.assertEqual(long_ring(net) is not None, long_one)
            if long_one:
                self.a_ring(net, 5)

    def test_fours(self):
        ring = round_net((1,) * 4, 1)
        for net in (ring, with_link(ring, 0, 2), full_net(4), beside(full_net(4), full_net(4, 2)),
                    chained([full_net(4)] * 13)):
            self.a_ring(net)
            self.tells(None, long_ring, net)

    def test_hubs(self):
        for many in range(5, 41):
            for linked in (False, True):
                net = hubs_net(many, linked=linked)
                self.a_ring(net)
                self.tells(None, long_ring, net)
                if many in (5, 6, 17, 40):
                    self.a_ring(with_link(net, 2, many - 1), 5)
        net = renamed(hubs_net(40), ALL_40[::-1])
        self.tells(None, long_ring, net)
        self.a_ring(with_link(net, 0, 1), 5)

    def test_all_linked(self):
        for many in (5, 6, 39, 40):
            self.a_ring(full_net(many))
            self.a_ring(full_net(many), 5)
        self.a_ring(LARGE_40, 5)

    def test_others(self):
        petersen = [(x, (x + 1) % 5) for x in range(5)] + [(x, x + 5) for x in range(5)]
        petersen += [(x + 5, (x + 2) % 5 + 5) for x in range(5)]
        self.a_ring(linked_net(10, [tuple(sorted(pair)) for pair in petersen]), 5)
        for one, two in ((3, 3), (3, 37), (20, 20)):
            self.a_ring(linked_net(one + two, [(x, one + y) for x in range(one) for y in range(two)]), 5)
        self.a_ring(linked_net(6, [(0, 1), (1, 2), (2, 3), (3, 4), (4, 5), (0, 5), (0, 3)]), 5)
        self.a_ring(chained([hubs_net(20), hubs_net(11), R, full_net(4)]), 5)
        self.a_ring(RINGS, 5)


    def test_a_link_that_no_long_ring_goes_over(self):
        # Chords of rings of five and six hosts, which stand first and last among the links.
        for net in (with_link(R, 0, 2), with_link(R, 2, 4), with_link(with_link(R, 0, 2), 2, 4),
                    with_link(round_net((1,) * 6, 1), 0, 3), with_link(round_net((1,) * 6, 1), 2, 5),
                    linked_net(6, [(0, 1), (1, 2), (2, 3), (3, 4), (4, 5), (0, 5), (0, 3), (1, 4), (2, 5)])):
            many = len(net[0])
            for order in permutations(range(many)):
                self.a_ring(renamed(net, order), 5)

    def test_blocks_of_the_kind_other(self):
        for net in some_nets(77, 400, (5, 6, 7)):
            if any(kind(net, block) == "other" for block in blocks(net)):
                self.a_ring(net, 5)


def hung(chance, many, rings):
    """A net of so many hosts: rings at one another or at one host, the other hosts hung to them, all renamed."""
    links, first = set(), 1
    for size in rings:
        row = [chance.randrange(first) if chance.random() < 0.7 else 0] + list(range(first, first + size - 1))
        links |= {tuple(sorted((row[i - 1], row[i]))) for i in range(size)}
        first += size - 1
    links |= {(chance.randrange(x), x) for x in range(first, many)}
    order = chance.sample(range(many), many)
    return renamed(linked_net(many, links), tuple(order))


class LongRingsQuickly(Case):

    def check_hundred(self, nets):
        """A hundred calls together take no longer than a moment, and each tells a long ring, link by link."""
        nets = (list(nets) * 100)[:100]
        begin = perf_counter()
        told = [long_ring(net) for net in nets]
        self.assertLess(perf_counter() - begin, 1.5)
        for net, row in zip(nets, told):
            self.assertGreaterEqual(len(row), 5)
            self.assertTrue(slow_ring(net, row), row)
            self.assertTrue(plain(row))
        self.assertTrue(alike(told[:5], [long_ring(net) for net in nets[:5]]))

    def test_one_ring(self):
        for many in (5, 20, 40):
            self.check_hundred([round_net((1,) * many, 2)])
        self.check_hundred([((1,) * 40, RING_40[1], 2)])

    def test_rings_with_hosts_hung_to_them(self):
        chance = Random(4)
        self.check_hundred([hung(chance, 40, [chance.randint(5, 40)]) for _ in range(100)])

    def test_several_rings_at_one_host_and_at_one_another(self):
        chance = Random(5)
        for rings in ((5, 5, 5), (3, 3, 3, 20), (4, 4, 4, 4, 4, 4, 5), (14, 14, 14), (3, 37), (20, 3, 4, 3, 4, 3)):
            self.check_hundred([hung(chance, 40, chance.sample(rings, len(rings))) for _ in range(100)])

    def test_all_linked_and_rings_with_links_across(self):
        self.check_hundred([FULL_40, LARGE_40])
        chance = Random(6)
        pairs = list(combinations(range(40), 2))
        for many in (1, 2, 10, 30, 300):
            self.check_hundred([linked_net(40, set(RING_40[1]) | set(chance.sample(pairs, many))) for _ in range(100)])

    def test_hosts_put_into_the_middle_of_links(self):
        chance = Random(7)
        nets = []
        for _ in range(100):
            links = set(combinations(range(6), 2))
            for x in range(6, 40):
                a, b = chance.choice(sorted(links))
                links = links - {(a, b)} | {(a, x), (b, x)}
            nets.append(linked_net(40, links))
        self.check_hundred(nets)

    def test_blocks_that_nearly_have_hubs(self):
        self.check_hundred([linked_net(40, set(hubs_net(40, linked=linked)[1]) | {pair})
                            for linked in (False, True) for pair in ((2, 3), (2, 39), (38, 39))])

    def test_none_as_quickly(self):
        nets = [hubs_net(40), hubs_net(40, linked=True), chained([full_net(4)] * 13), chained([round_net((1,) * 4, 1)] * 13), BARE_40,
                linked_net(40, [(x, x + 1) for x in range(39)])]
        begin = perf_counter()
        for net in (nets * 17)[:100]:
            self.tells(None, long_ring, net)
        self.assertLess(perf_counter() - begin, 1.5)


class RingRight(Case):

    def test_turned_and_turned_about(self):
        for row in ((0, 1, 2, 3, 4), (4, 3, 2, 1, 0)):
            for turn in range(5):
                self.tells(True, ring_right, R, row[turn:] + row[:turn])
        self.tells(True, ring_right, RING_40, ALL_40[7:] + ALL_40[:7])
        self.tells(True, ring_right, RING_40, ALL_40[::-1])
        self.tells(True, ring_right, FULL_40, ALL_40[::2] + ALL_40[1::2])

    def test_every_row_of_hosts(self):
        for net in (R, TRIANGLES, FULL_5, hubs_net(5), without_link(FULL_5, 1, 3)):
            for size in range(6):
                for row in permutations(range(5), size):
                    self.tells(slow_ring(net, row), ring_right, net, row)

    def test_a_host_twice(self):
        for row in ((2, 0, 1, 2, 3, 4), (0, 1, 2, 4, 3, 2), (0, 1, 0), (0, 0, 0), (0, 1, 2, 0, 1, 2), (0, 1, 0, 1)):
            self.tells(False, ring_right, TRIANGLES, row)
        self.tells(False, ring_right, FULL_40, ALL_40 + (0,))

    def test_what_is_no_ring(self):
        wrong = NO_NUMBERS + NO_TUPLES
        wrong += ((0, 1, 2.0), (0.0, 1.0, 2.0), (0, True, 2), (False, 1, 2), (0, 1, None), (0, 1, "2"), "012",
                  [0, 1, 2], (0, 1, (2,)), (0, 1, [2]), ((0, 1, 2),), ((0, 1), (1, 2), (0, 2)), (0, 1, -1), (0, 1, 5),
                  (-1, -2, -3), (0, 1, NAN), (), (1,), DEEP, BROAD, (BROAD,) * 3, (0, 1, 10 ** 4199))
        for row in wrong:
            self.tells(False, ring_right, FULL_5, row)
            self.tells(False, ring_right, EMPTY, row)

    def test_wrong_nets(self):
        for net, _, _ in NET_ERRORS:
            for row in ((0, 1, 2), (), None):
                self.tells(False, ring_right, net, row)

    def test_votes_and_need_do_not_matter(self):
        for net in (R, TRIANGLES, FULL_5, RINGS):
            other = ((0, 10 ** 300, 7) * 3, net[1], 10 ** 400)
            other = (other[0][:len(net[0])],) + other[1:]
            for function in (some_ring, long_ring):
                self.assertTrue(alike(function(other), function(net)))


if __name__ == "__main__":
    unittest.main()
