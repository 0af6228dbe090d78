"""Nets that fall, [43]."""

import unittest
from random import Random

from fifthhost import errors
from fifthhost.counts import once
from fifthhost.errors import BadHost, NoLink, NotWorking, Refused, TooMany
from fifthhost.falling import Falling
from fifthhost.lots import votes_of, whole
from fifthhost.netedits import beside, cut_net, with_need
from tests.common import (BARE_40, BROAD, DEEP, EMPTY, FULL_40, LARGE, LARGE_40, NET_ERRORS, NO_NUMBERS, ONE, R, RING_40, RINGS,
                          S, TEN, TRIANGLES, Case, alike, chained, frozen, full_net, hubs_net, linked_net, round_net,
                          some_nets)

G = ((1, 1, 1, 1, 1), ((0, 1), (0, 2), (0, 3), (1, 2), (3, 4)), 2)
NO_HOSTS = NO_NUMBERS + ("0", [], [0], -1, 5, LARGE, -LARGE, BROAD, DEEP)


class Model:
    """A net that falls, by the words of [43]."""

    def __init__(self, net):
        self.net = net
        self.links = list(net[1])
        self.logs = {}
        begin = 0
        for part in self.parts():
            self.logs[part] = tuple(range(begin, begin + self.number(part)))
            begin += self.number(part)

    def number(self, part):
        return once(cut_net(self.net, part))

    def parts(self):
        return whole((self.net[0], tuple(self.links), self.net[2]))

    def part(self, x):
        return [part for part in self.parts() if x in part][0]

    def cut(self, a, b):
        ahead = self.part(a)
        self.links.remove((min(a, b), max(a, b)))
        if self.part(a) != ahead:
            one, two = sorted([self.part(a), self.part(b)])
            logs = self.logs.pop(ahead)
            self.logs[one] = logs[:self.number(one)]
            self.logs[two] = logs[self.number(one):self.number(one) + self.number(two)]
        return self.parts()


class FallingNets(Case):

    def same(self, falling, model):
        """All that the net tells is what the model holds; and what holds of all parts and reserves."""
        parts = model.parts()
        self.tells(parts, falling.parts)
        held = []
        for part in parts:
            logs = model.logs[part]
            for x in part:
                self.tells(logs, falling.reserve, x)
                if votes_of(model.net, part) >= model.net[2]:
                    self.tells(min(logs), falling.log, x)
                else:
                    self.refuses(NotWorking, part, falling.log, x)
            self.assertEqual(len(logs), model.number(part))
            self.assertEqual(logs, tuple(sorted(logs)))
            held.extend(logs)
        self.assertEqual(len(held), len(set(held)))
        self.assertLessEqual(len(held), once(model.net))
        return held

    def falls(self, net, order):
        """All links of the net break in this order, told either way round."""
        falling, model = Falling(net), Model(net)
        self.same(falling, model)
        for index, (a, b) in enumerate(order):
            self.tells(model.cut(a, b), falling.cut, *((a, b) if index % 2 else (b, a)))
            self.same(falling, model)

    def test_examples_of_the_ring(self):
        f = Falling(R)
        self.tells((0, 1), f.reserve, 3)
        self.tells(((0, 1, 2, 3, 4),), f.cut, 1, 2)
        self.tells(((0, 1, 4), (2, 3)), f.cut, 4, 3)
        self.tells((0,), f.reserve, 4)
        self.tells(1, f.log, 3)
        self.tells(((0, 1), (2, 3), (4,)), f.cut, 0, 4)
        self.tells((), f.reserve, 4)
        self.refuses(NotWorking, (4,), f.log, 4)
        self.refuses(NoLink, (1, 2), f.cut, 2, 1)

    def test_example_of_a_row(self):
        row = Falling(linked_net(6, [(x, x + 1) for x in range(5)], need=2))
        self.tells((0, 1, 2), row.reserve, 5)
        self.tells(((0, 1, 2), (3, 4, 5)), row.cut, 2, 3)
        for x in range(6):
            self.tells((x // 3,), row.reserve, x)

    def test_links_that_are_broken_count_for_the_number_of_a_part(self):
        g = Falling(G)
        g.cut(1, 2)
        self.tells(((0, 1, 2, 3), (4,)), g.cut, 3, 4)
        self.tells((0, 1), g.reserve, 0)
        self.tells((), g.reserve, 4)
        self.falls(G, [(1, 2), (3, 4), (0, 1), (0, 3), (0, 2)])

    def test_several_pieces_at_first(self):
        for net in (beside(R, R), beside(beside(TRIANGLES, full_net(4)), with_need(S, 2)), with_need(BARE_40, 1), BARE_40,
                    beside(with_need(ONE, 2), beside(R, round_net((3, 0, 1), 2)))):
            self.falls(net, net[1])
            self.falls(net, net[1][::-1])
        f = Falling(beside(beside(with_need(ONE, 2), R), beside(round_net((3, 0, 1), 2), R)))
        self.assertEqual([f.reserve(x) for x in (0, 1, 5, 6, 8, 9, 13)], [(), (0, 1), (0, 1), (2,), (2,), (3, 4), (3, 4)])

    def test_the_part_with_the_least_host_keeps_the_least_logs(self):
        net = linked_net(6, [(0, 5), (1, 2), (1, 3), (3, 4), (4, 5)], need=2)
        f = Falling(net)
        self.tells((0, 1, 2), f.reserve, 0)
        self.tells(((0, 4, 5), (1, 2, 3)), f.cut, 4, 3)
        self.tells((0,), f.reserve, 5)
        self.tells((1,), f.reserve, 3)
        net = linked_net(7, [(0, 6), (1, 2), (2, 3), (3, 4), (4, 5), (5, 6)])
        f = Falling(net)
        f.cut(6, 5)
        self.tells((0, 1), f.reserve, 6)
        self.tells((2, 3, 4, 5, 6), f.reserve, 1)

    def test_logs_that_nobody_holds_stay_so(self):
        f = Falling(linked_net(8, [(x, x + 1) for x in range(7)], need=2))
        self.tells((0, 1, 2, 3), f.reserve, 0)
        f.cut(0, 1)
        self.tells((), f.reserve, 0)
        self.tells((0, 1, 2), f.reserve, 7)
        f.cut(2, 3)
        self.tells((0,), f.reserve, 1)
        self.tells((1, 2), f.reserve, 4)

    def test_cuts_in_drawn_orders(self):
        chance = Random(43)
        for net in some_nets(431, 150, (2, 3, 4, 5, 6, 7)):
            self.falls(net, chance.sample(net[1], len(net[1])))
        for net in (TEN, RINGS, chained([TRIANGLES, full_net(4, 2), R]), hubs_net(9, 3), round_net((1, 2, 0) * 4, 3)):
            for _ in range(5):
                self.falls(net, chance.sample(net[1], len(net[1])))

    def test_forty_hosts(self):
        chance = Random(44)
        for net in (RING_40, linked_net(40, [((x - 1) // 2, x) for x in range(1, 40)], need=3), chained([full_net(4, 3)] * 13)):
            order = chance.sample(net[1], len(net[1]))
            falling, model = Falling(net), Model(net)
            for index, (a, b) in enumerate(order):
                self.tells(model.cut(a, b), falling.cut, b, a)
                if index % 13 == 0:
                    self.same(falling, model)
            self.same(falling, model)

    def test_large_votes(self):
        self.falls((tuple(LARGE * votes for votes in TEN[0]), TEN[1], 3 * LARGE), TEN[1][::-1])

    def test_nets_without_links(self):
        f = Falling(EMPTY)
        self.tells((), f.parts)
        self.refuses(BadHost, 0, f.reserve, 0)
        self.refuses(BadHost, 0, f.cut, 0, 0)
        f = Falling(((2, 1), (), 2))
        self.tells(((0,), (1,)), f.parts)
        self.tells((0,), f.reserve, 0)
        self.tells(0, f.log, 0)
        self.refuses(NotWorking, (1,), f.log, 1)

    def test_wrong_nets(self):
        for net, error, what in NET_ERRORS:
            self.refuses(getattr(errors, error), what, Falling, net)
            self.refuses(getattr(errors, error), what, Falling, net=net)

    def test_too_many_as_once(self):
        for net, hosts in ((full_net(8), 8), (FULL_40, 40), (LARGE_40, 40), (hubs_net(15), 15),
                           (chained([full_net(9), full_net(8)]), 8), (chained([hubs_net(15), full_net(16)]), 15)):
            self.refuses(TooMany, hosts, Falling, net)

    def test_wrong_hosts(self):
        f = Falling(R)
        for x in NO_HOSTS:
            self.refuses(BadHost, x, f.reserve, x)
            self.refuses(BadHost, x, f.log, x)
            for b in (0, x, 7, None):
                self.refuses(BadHost, x, f.cut, x, b)
            self.refuses(BadHost, x, f.cut, 0, x)
            self.refuses(BadHost, 5, f.cut, 5, x)
        self.same(f, Model(R))

    def test_links_that_are_no_whole_ones(self):
        f = Falling(R)
        for a, b, what in ((0, 2, (0, 2)), (2, 0, (0, 2)), (3, 3, (3, 3)), (0, 0, (0, 0)), (4, 1, (1, 4))):
            self.refuses(NoLink, what, f.cut, a, b)
        self.same(f, Model(R))
        for a, b in R[1]:
            f.cut(b, a)
            self.refuses(NoLink, (a, b), f.cut, a, b)
            self.refuses(NoLink, (a, b), f.cut, b, a)
        self.tells(((0,), (1,), (2,), (3,), (4,)), f.parts)

    def test_a_call_that_raises_changes_nothing(self):
        f, model = Falling(G), Model(G)
        for a, b in ((1, 2), (0, 3), (0, 1)):
            for wrong in ((None, 0), (0, 9), (1, 3), (2, 2), (True, 0), ([0], [1])):
                with self.assertRaises(Refused):
                    f.cut(*wrong)
            self.same(f, model)
            self.tells(model.cut(a, b), f.cut, a, b)
            with self.assertRaises(NoLink):
                f.cut(a, b)
            self.same(f, model)

    def test_two_objects_of_one_net(self):
        one, two = Falling(R), Falling(R)
        one.cut(0, 1)
        one.cut(2, 3)
        self.same(two, Model(R))
        model = Model(R)
        for a, b in ((0, 1), (3, 4), (1, 2)):
            self.tells(model.cut(a, b), two.cut, a, b)
        self.same(two, model)
        self.tells(((0, 3, 4), (1, 2)), one.parts)

    def test_by_position_and_by_name(self):
        f = Falling(net=R)
        self.tells((0, 1), f.reserve, x=3)
        self.tells(0, f.log, x=3)
        self.tells(((0, 1, 2, 3, 4),), f.cut, b=1, a=2)
        self.tells(((0, 1, 4), (2, 3)), f.cut, 4, b=3)
        self.tells(((0, 1, 4), (2, 3)), f.parts)
        self.assertEqual(f.parts(), f.parts())

    def test_the_net_stays_as_it_was(self):
        ahead = frozen(R)
        f = Falling(R)
        for a, b in R[1]:
            f.cut(a, b)
        self.assertTrue(alike(R, ahead))

    def test_the_methods_stand_in_the_class_itself(self):
        for name in ("__init__", "parts", "reserve", "log", "cut"):
            self.assertIn(name, vars(Falling))
        self.assertEqual(Falling.__module__, "fifthhost.falling")
        self.assertEqual(Falling.__bases__, (object,))


if __name__ == "__main__":
    unittest.main()
