"""Cuts and blocks, their kinds, rings and hubs, [10] to [12]."""

import unittest
from itertools import combinations

from fifthhost.blocks import blocks, cuts, hubs_of, kind, round_of
from fifthhost.errors import BadBlock
from fifthhost.netedits import renamed, with_link, without_link
from tests.common import (BARE_40, BROAD, DEEP, EMPTY, FULL_40, LARGE, LARGE_40, NAN, NO_NUMBERS, NO_TUPLES, ONE, R,
                          RING_40, S, TRIANGLES, Case, all_nets, linked_net, slow_blocks, slow_pieces)

ALL_40 = tuple(range(40))
RING_4 = linked_net(4, [(0, 1), (0, 3), (1, 2), (2, 3)])
CROSSED_4 = linked_net(4, [(0, 2), (0, 3), (1, 2), (1, 3)])
HUBS_5 = linked_net(5, [(0, 1), (0, 3), (0, 4), (1, 2), (2, 3), (2, 4)])
HUBS_40 = linked_net(40, [pair for x in ALL_40 if x not in (7, 30) for pair in (tuple(sorted((7, x))),
                                                                              tuple(sorted((30, x))))])
# A bridge, a ring of five, a block of four, a block of hubs, five hosts all linked, and a host by itself.
MIXED = linked_net(18, [(0, 1), (1, 2), (2, 3), (3, 4), (4, 5), (1, 5), (5, 6), (6, 7), (7, 8), (5, 8), (5, 7), (8, 9),
                        (8, 10), (8, 11), (9, 12), (10, 12), (11, 12)]
                   + list(combinations((12, 13, 14, 15, 16), 2)))
MIXED_KINDS = {(17,): "host", (0, 1): "link", (5, 6, 7, 8): "four", (1, 2, 3, 4, 5): "ring",
               (8, 9, 10, 11, 12): "hubs", (12, 13, 14, 15, 16): "other"}


def slow_cuts(net):
    """The cuts by the words of [10]."""
    every = tuple(range(len(net[0])))
    found = []
    for x in every:
        piece = [lot for lot in slow_pieces(net, every) if x in lot][0]
        if len(slow_pieces(net, tuple(y for y in piece if y != x))) >= 2:
            found.append(x)
    return tuple(found)


def slow_kind(net, block):
    """The kind by the words of [11]."""
    links = {pair for pair in net[1] if pair[0] in block and pair[1] in block}
    if len(block) < 3:
        return ("host", "link")[len(block) - 1]
    if all(sum(x in pair for pair in links) == 2 for x in block):
        return "ring"
    if len(block) == 4:
        return "four"
    for hubs in combinations(block, 2):
        others = [x for x in block if x not in hubs]
        if all(tuple(sorted((x, hub))) in links for x in others for hub in hubs):
            if not any(pair in links for pair in combinations(others, 2)):
                return "hubs"
    return "other"


def common_ring(net, block, x, y):
    """Whether two hosts of a block lie on a common ring of it, tried by all ways."""
    near = {a: {b for pair in net[1] if a in pair for b in pair if b != a and b in block} for a in block}
    ways = [(x,)]
    while ways:
        way = ways.pop()
        if y in way and len(way) > 2 and x in near[way[-1]]:
            return True
        ways.extend(way + (b,) for b in near[way[-1]] if b not in way)
    return False


class CutsAndBlocks(Case):

    def test_examples(self):
        self.tells((2,), cuts, TRIANGLES)
        self.tells(((0, 1, 2), (2, 3, 4)), blocks, TRIANGLES)
        less = without_link(TRIANGLES, 3, 4)
        self.tells(((2, 3), (2, 4), (0, 1, 2)), blocks, less)
        self.tells((2,), cuts, less)
        self.tells((1,), cuts, S)
        self.tells(((0, 1), (1, 2)), blocks, S)
        three = linked_net(3, [(0, 2)])
        self.tells((), cuts, three)
        self.tells(((1,), (0, 2)), blocks, three)

    def test_edges(self):
        self.tells((), cuts, EMPTY)
        self.tells((), blocks, EMPTY)
        self.tells((), cuts, ONE)
        self.tells(((0,),), blocks, ONE)

    def test_every_small_net(self):
        for many in range(6):
            for net in all_nets(many):
                self.assertEqual(blocks(net), tuple(sorted(slow_blocks(net), key=lambda lot: (len(lot), lot))))
                self.assertEqual(cuts(net), slow_cuts(net))

    def test_what_holds_of_blocks(self):
        for net in all_nets(5):
            told = blocks(net)
            for link in net[1]:
                self.assertEqual(sum(set(link) <= set(lot) for lot in told), 1)
            for one, two in combinations(told, 2):
                self.assertLessEqual(len(set(one) & set(two)), 1)
            often = tuple(x for x in range(5) if sum(x in lot for lot in told) >= 2)
            self.assertEqual(often, cuts(net))

    def test_hosts_of_a_greater_block_lie_on_a_common_ring(self):
        for net in list(all_nets(4)) + [R, TRIANGLES, HUBS_5, MIXED]:
            for block in blocks(net):
                if len(block) > 2:
                    for x, y in combinations(block, 2):
                        self.assertTrue(common_ring(net, block, x, y))

    def test_forty_hosts(self):
        self.tells((), cuts, BARE_40)
        self.tells(tuple((x,) for x in ALL_40), blocks, BARE_40)
        for net in (RING_40, FULL_40, LARGE_40, HUBS_40):
            self.tells((), cuts, net)
            self.tells((ALL_40,), blocks, net)
        row = without_link(RING_40, 0, 39)
        self.tells(ALL_40[1:-1], cuts, row)
        self.tells(tuple((x, x + 1) for x in range(39)), blocks, row)
        star = linked_net(40, [(0, x) for x in range(1, 40)])
        self.tells((0,), cuts, star)
        self.tells(tuple((0, x) for x in range(1, 40)), blocks, star)

    def test_cuts_rise_across_pieces(self):
        net = linked_net(7, [(0, 5), (5, 6), (1, 2), (2, 3)])
        self.tells((2, 5), cuts, net)
        self.tells(((4,), (0, 5), (1, 2), (2, 3), (5, 6)), blocks, net)

    def test_mixed(self):
        self.tells((1, 5, 8, 12), cuts, MIXED)
        self.tells(tuple(MIXED_KINDS), blocks, MIXED)

    def test_blocks_are_in_order_when_renamed(self):
        order = (17, 12, 3, 8, 0, 14, 5, 1, 16, 2, 13, 9, 4, 15, 11, 6, 10, 7)
        net = renamed(MIXED, order)
        place = {x: i for i, x in enumerate(order)}
        wanted = [tuple(sorted(place[x] for x in lot)) for lot in MIXED_KINDS]
        self.tells(tuple(sorted(wanted, key=lambda lot: (len(lot), lot))), blocks, net)
        self.tells(tuple(sorted(place[x] for x in (1, 5, 8, 12))), cuts, net)

    def test_votes_and_need_do_not_matter(self):
        other = ((0, LARGE) * 9, MIXED[1], LARGE)
        self.tells(cuts(MIXED), cuts, other)
        self.tells(blocks(MIXED), blocks, other)
        for block in blocks(MIXED):
            self.tells(kind(MIXED, block), kind, other, block)


class Kinds(Case):

    def test_examples(self):
        self.tells("ring", kind, RING_4, (0, 1, 2, 3))
        self.tells("ring", kind, CROSSED_4, (0, 1, 2, 3))
        self.tells("four", kind, with_link(CROSSED_4, 0, 1), (0, 1, 2, 3))
        every = (0, 1, 2, 3, 4)
        self.tells("hubs", kind, HUBS_5, every)
        self.tells("hubs", kind, with_link(HUBS_5, 0, 2), every)
        self.tells("other", kind, with_link(HUBS_5, 1, 3), every)
        self.refuses(BadBlock, (0, 1), kind, TRIANGLES, (0, 1))

    def test_each_kind_beside_the_others(self):
        for block, wanted in MIXED_KINDS.items():
            self.tells(wanted, kind, MIXED, block)

    def test_hosts_links_and_triangles(self):
        self.tells("host", kind, ONE, (0,))
        self.tells("host", kind, BARE_40, (39,))
        self.tells("link", kind, S, (1, 2))
        self.tells("ring", kind, TRIANGLES, (2, 3, 4))

    def test_four(self):
        five = with_link(RING_4, 0, 2)
        self.tells("four", kind, five, (0, 1, 2, 3))
        self.tells("four", kind, with_link(five, 1, 3), (0, 1, 2, 3))

    def test_hubs_of_every_size(self):
        for many in range(5, 41):
            net = linked_net(many, [(x, hub) for x in range(many - 2) for hub in (many - 2, many - 1)])
            every = tuple(range(many))
            for one in (net, with_link(net, many - 2, many - 1)):
                self.tells("hubs", kind, one, every)
                self.tells((many - 2, many - 1), hubs_of, one, every)
                self.refuses(BadBlock, every, round_of, one, every)
                if many < 40:
                    self.tells("other", kind, with_link(one, 0, 1), every)
            if many > 5:
                self.tells("other", kind, with_link(net, 0, many - 3), every)

    def test_near_hubs(self):
        every = (0, 1, 2, 3, 4, 5)
        # Two hosts with three links each, which are not linked to the same others.
        prism_less = linked_net(6, [(0, 1), (0, 2), (0, 3), (3, 4), (3, 5), (1, 4), (2, 5)])
        self.tells("other", kind, prism_less, every)
        # A wheel, whose hub is one.
        wheel = linked_net(5, [(0, 1), (0, 2), (0, 3), (0, 4), (1, 2), (2, 3), (3, 4), (1, 4)])
        self.tells("other", kind, wheel, (0, 1, 2, 3, 4))
        # Three hosts linked to three others.
        self.tells("other", kind, linked_net(6, [(x, y) for x in (0, 1, 2) for y in (3, 4, 5)]), every)
        # A ring of six with one chord.
        ring = [(0, 1), (1, 2), (2, 3), (3, 4), (4, 5), (0, 5)]
        self.tells("other", kind, linked_net(6, ring + [(0, 3)]), every)
        self.tells("other", kind, linked_net(5, [(0, 1), (1, 2), (2, 3), (3, 4), (0, 4), (0, 2)]), (0, 1, 2, 3, 4))

    def test_every_block_of_every_small_net(self):
        for many in range(6):
            for net in all_nets(many):
                for block in blocks(net):
                    self.tells(slow_kind(net, block), kind, net, block)

    def test_forty_hosts(self):
        self.tells("ring", kind, RING_40, ALL_40)
        self.tells("other", kind, FULL_40, ALL_40)
        self.tells("other", kind, LARGE_40, ALL_40)
        self.tells("hubs", kind, HUBS_40, ALL_40)


class RingsAndHubs(Case):

    def test_examples(self):
        every = (0, 1, 2, 3)
        self.tells((0, 1, 2, 3), round_of, RING_4, every)
        self.tells((0, 2, 1, 3), round_of, CROSSED_4, every)
        self.refuses(BadBlock, every, round_of, with_link(CROSSED_4, 0, 1), every)
        five = (0, 1, 2, 3, 4)
        self.tells((0, 2), hubs_of, HUBS_5, five)
        self.tells((0, 2), hubs_of, with_link(HUBS_5, 0, 2), five)
        self.refuses(BadBlock, five, hubs_of, with_link(HUBS_5, 1, 3), five)
        self.refuses(BadBlock, (0, 1, 2), hubs_of, TRIANGLES, (0, 1, 2))

    def test_round(self):
        self.tells((0, 1, 2), round_of, TRIANGLES, (0, 1, 2))
        self.tells((2, 3, 4), round_of, TRIANGLES, (2, 3, 4))
        self.tells((0, 1, 2, 3, 4), round_of, R, (0, 1, 2, 3, 4))
        self.tells((1, 2, 3, 4, 5), round_of, MIXED, (1, 2, 3, 4, 5))
        self.tells(ALL_40, round_of, RING_40, ALL_40)
        zigzag = linked_net(6, [(0, 3), (1, 3), (1, 5), (2, 5), (2, 4), (0, 4)])
        self.tells((0, 3, 1, 5, 2, 4), round_of, zigzag, (0, 1, 2, 3, 4, 5))

    def test_round_of_every_ring(self):
        for net in all_nets(5):
            for block in blocks(net):
                if kind(net, block) == "ring":
                    row = round_of(net, block)
                    self.assertEqual((tuple(sorted(row)), row[0]), (block, block[0]))
                    self.assertLess(row[1], row[-1])
                    for i, x in enumerate(row):
                        self.assertIn(tuple(sorted((x, row[i - 1]))), net[1])

    def test_hubs(self):
        self.tells((7, 30), hubs_of, HUBS_40, ALL_40)
        self.tells((7, 30), hubs_of, with_link(HUBS_40, 30, 7), ALL_40)
        self.tells((8, 12), hubs_of, MIXED, (8, 9, 10, 11, 12))

    def test_blocks_of_other_kinds(self):
        for block, told in MIXED_KINDS.items():
            if told != "ring":
                self.refuses(BadBlock, block, round_of, MIXED, block)
            if told != "hubs":
                self.refuses(BadBlock, block, hubs_of, MIXED, block)

    def test_what_is_no_block(self):
        wrong = NO_NUMBERS + NO_TUPLES
        wrong += ((), (0, 1), (0, 2), (1, 0, 2), (2, 1, 0), (0, 1, 2, 3), (0, 1, 2, 3, 4), (2,), (5,), (-3, 3, 4),
                  (0, True, 2), (False, 1, 2), (0, 1.0, 2), (0.0, 1.0, 2.0), (0, "1", 2), (0, 1, None), (0, (1,), 2),
                  (0, [1], 2), [0, 1, 2], "012", (0, 1, 1, 2), (NAN, 1, 2), ((0, 1, 2),), [[0, 1, 2]], DEEP, BROAD,
                  ((0, 1, 2), (2, 3, 4)), (0, 1, LARGE), [True, None, 1.5, (2, "x")])
        for function in (kind, round_of, hubs_of):
            for block in wrong:
                self.refuses(BadBlock, block, function, TRIANGLES, block)
            self.refuses(BadBlock, (), function, EMPTY, ())
            self.refuses(BadBlock, (0,), function, EMPTY, (0,))
            self.refuses(BadBlock, (True,), function, BARE_40, (True,))
            self.refuses(BadBlock, ALL_40[1:], function, FULL_40, ALL_40[1:])
            self.refuses(BadBlock, list(ALL_40), function, RING_40, list(ALL_40))
        for wrong in ((0, True), (0.0, 1), (1, 0), [0, 1]):
            self.refuses(BadBlock, wrong, kind, S, wrong)


if __name__ == "__main__":
    unittest.main()
