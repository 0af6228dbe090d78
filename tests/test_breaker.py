"""Houses that are broken, [41], and moments of one change at a time, [42]."""

import unittest
from itertools import combinations
from random import Random

from fifthhost.breaker import broken, shattered
from fifthhost.counts import logs
from fifthhost.errors import BadHouse, BadMoments, TooMany
from fifthhost.listing import working
from fifthhost.lots import whole
from fifthhost.netedits import with_need, without_link
from fifthhost.playing import forked, made_moments, play
from tests.common import (BARE_40, BROAD, DEEP, EMPTY, FULL_40, LARGE, NO_NUMBERS, NO_TUPLES, ONE, R, RING_40, S, TRIANGLES,
                          Case, full_net, hubs_net, linked_net, plain, round_net, slow_pieces, slow_working, some_nets)
from tests.housesets import H, LEAST, P, WHOLE_R, some_house, some_moment

ALWAYS = ("always",)


class Broken(Case):

    def right(self, net, house):
        """What is told is right: two moments that are forked where there are any such, None elsewhere."""
        told = broken(net, house)
        self.assertTrue(plain(told))
        self.tells(told, broken, net, house)
        first = whole(net)
        pairs = [tuple(sorted(pair)) for pair in combinations(slow_working(net), 2) if not set(pair[0]) & set(pair[1])]
        forks = [(first, moment) for moment in [()] + pairs if forked(net, house, (first, moment)) is not None]
        given = {play(net, house, (first, (lot,)))[1][0][1] for lot in slow_working(net)}
        if len(given) < logs(net):
            self.assertIsNotNone(told, (net, house))
        if not forks:
            self.assertIsNone(told, (net, house))
        if told is not None:
            self.assertIs(made_moments(net, told), told)
            self.assertEqual((len(told), told[0]), (2, first))
            self.assertIsNotNone(forked(net, house, told), (net, house, told))
        return told

    def test_examples(self):
        self.assertIsNotNone(self.right(R, H))
        self.tells(None, broken, R, LEAST)
        self.assertIsNone(self.right(R, LEAST))

    def test_houses_with_fewer_logs_are_always_broken(self):
        for net in (R, TRIANGLES, full_net(5), full_net(7, 3), round_net((1,) * 7, 3), hubs_net(6), S, with_need(R, 1)):
            for many in range(1, logs(net)):
                for rows in ([(("least", x), ("log", x % many)) for x in range(len(net[0]))],
                             [(("has", x), ("log", x)) for x in range(many - 1)] + [(ALWAYS, ("log", many - 1))],
                             [(("many", 7 - x), ("log", x % many)) for x in range(7)], [(("shrunk",), ("last",))]):
                    self.assertIsNotNone(self.right(net, tuple(rows)))
            self.assertEqual(broken(net, ()) is None, logs(net) < 2)

    def test_houses_that_are_not_broken(self):
        for net in (R, full_net(5), full_net(7, 3), round_net((1,) * 7, 3), with_need(R, 1)):
            many = len(net[0])
            self.assertIsNone(self.right(net, tuple((("least", x), ("log", x)) for x in range(many))))
            self.assertIsNone(self.right(net, tuple((("has", x), ("log", x)) for x in range(many))))
        self.assertIsNone(self.right(with_need(R, 4), ()))

    def test_the_whole_net_is_forked_at_once(self):
        net = ((1, 1, 1, 1), ((0, 1), (2, 3)), 2)
        for house in ((), ((ALWAYS, ("log", 5)),), ((("shrunk",), ("first",)),)):
            told = self.right(net, house)
            self.assertEqual(forked(net, house, told)[0], 0)
        # Behind the whole net all lots get the log that they had there, and these are unlike.
        self.assertIsNone(self.right(net, ((("shrunk",), ("last",)), (("has", 0), ("log", 1)))))
        # In the whole net alone two lots get one log; behind it (0, 1) gets 0, and (2, 3) gets 1.
        told = self.right(net, ((("has", 0), ("last",)), (("shrunk",), ("log", 1))))
        self.assertEqual(forked(net, ((("has", 0), ("last",)), (("shrunk",), ("log", 1))), told), (0, (0, 1), (2, 3)))

    def test_moments_whose_lots_are_by_least_hosts(self):
        # The first pair in the order of lots may have its lots the other way round than moments do.
        net = ((1, 1, 1, 3), ((0, 1), (1, 2)), 3)
        house = ((("shrunk",), ("log", 1)),)
        self.assertIsNotNone(self.right(net, house))
        row = linked_net(4, [(0, 1), (1, 2), (2, 3)], (1, 1, 1, 3), 3)
        self.assertIsNotNone(self.right(row, ((ALWAYS, ("log", 1)),)))
        self.assertEqual(broken(row, ()), (((0, 1, 2, 3),), ((0, 1, 2), (3,))))

    def test_no_working_lot(self):
        for net in (EMPTY, ONE, with_need(R, 6), ((0,) * 7, (), 1)):
            self.assertIsNone(self.right(net, ()))

    def test_other_houses_and_nets(self):
        chance = Random(411)
        told = []
        for net in some_nets(413, 250, (2, 3, 4, 5)):
            for rows in (2, 8):
                told.append(self.right(net, some_house(chance, len(net[0]), rows)))
        self.assertTrue(any(moments is None for moments in told) and any(moments is not None for moments in told))
        for net in some_nets(415, 15, (6, 7)):
            self.right(net, some_house(chance, len(net[0])))

    def test_seven_and_eight_hosts(self):
        self.assertIsNotNone(self.right(full_net(7), ()))
        self.assertIsNone(self.right(full_net(7, 4), ()))
        for net in (full_net(8, 5), ((0,) * 8, (), 1), FULL_40, BARE_40):
            self.refuses(TooMany, len(net[0]), broken, net, ())

    def test_errors_in_their_order(self):
        self.refuses(BadHouse, -1, broken, FULL_40, None)
        self.refuses(BadHouse, 0, broken, FULL_40, (None,))
        self.refuses(TooMany, 41, broken, FULL_40, (None,) * 41)
        self.refuses(TooMany, 40, broken, FULL_40, ())


class Shattered(Case):

    def right(self, net, lots):
        """The moments, by the words of [42]."""
        links = list(net[1])
        wanted = [self.pieces(net, links)]
        for link in net[1]:
            links.remove(link)
            wanted.append(self.pieces(net, links))
        for link in net[1]:
            if any(set(link) <= set(lot) for lot in lots):
                links.append(link)
                wanted.append(self.pieces(net, links))
        self.tells(tuple(wanted), shattered, net, lots)
        rest = {x for x in range(len(net[0]))} - {x for lot in lots for x in lot}
        self.assertEqual(wanted[-1], tuple(sorted(lots + tuple((x,) for x in rest))))

    def pieces(self, net, links):
        """All pieces that these links leave."""
        return whole((net[0], tuple(sorted(links)), net[2]))

    def test_examples(self):
        self.tells((((0, 1, 2),), ((0,), (1, 2)), ((0,), (1,), (2,)), ((0, 1), (2,))), shattered, P, ((0, 1),))
        told = shattered(R, ((0, 1), (2, 3)))
        self.assertEqual((len(told), told[-1]), (8, ((0, 1), (2, 3), (4,))))
        self.assertEqual(told[0], WHOLE_R)
        self.right(R, ((0, 1), (2, 3)))

    def test_nets_with_no_links_and_with_all(self):
        for net in (EMPTY, ONE, BARE_40):
            self.tells((tuple((x,) for x in range(len(net[0]))),), shattered, net, ())
        for many in range(2, 8):
            net = full_net(many)
            self.right(net, ())
            self.right(net, (tuple(range(many)),))
            self.right(net, ((0,), tuple(range(1, many))))
        self.right(BARE_40, ((3,), (17,)))

    def test_one_moment_more_than_links_broken_and_mended(self):
        for lots, mended in (((), 0), (((0,), (1,)), 0), (((0, 1),), 1), (((0, 1, 2, 3, 4),), 5),
                             (((0, 1, 4), (2, 3)), 3), (((1, 2, 3),), 2)):
            self.assertEqual(len(shattered(R, lots)), 1 + 5 + mended)

    def test_links_are_mended_one_by_one_in_order(self):
        net = full_net(4)
        told = shattered(net, ((0, 2, 3),))
        self.assertEqual(told[-4:], (((0,), (1,), (2,), (3,)), ((0, 2), (1,), (3,)), ((0, 2, 3), (1,)), ((0, 2, 3), (1,))))
        # Links of two lots come by turns, as they stand in the net.
        self.assertEqual(shattered(full_net(6), ((0, 5), (1, 3), (2, 4)))[-3:],
                         (((0, 5), (1,), (2,), (3,), (4,)), ((0, 5), (1, 3), (2,), (4,)), ((0, 5), (1, 3), (2, 4))))

    def test_other_nets(self):
        chance = Random(42)
        for net in some_nets(421, 200, (1, 2, 3, 4, 5, 6)):
            for _ in range(3):
                self.right(net, some_moment(chance, net))

    def test_pieces_beside_a_plain_trying(self):
        net = without_link(TRIANGLES, 0, 2)
        told = shattered(net, ((0, 1, 2), (3,)))
        for count in range(len(net[1]) + 1):
            self.assertEqual(told[count], slow_pieces((net[0], net[1][count:], net[2]), range(5)))

    def test_the_moments_are_moments_and_all_wanted_lots_are_reached(self):
        for net in (R, TRIANGLES, full_net(6, 3)):
            for one, two in combinations(working(net), 2):
                if not set(one) & set(two):
                    told = shattered(net, tuple(sorted((one, two))))
                    self.assertIs(made_moments(net, told), told)
                    self.assertTrue({one, two} <= set(told[-1]))

    def test_400_and_401_moments(self):
        links = list(combinations(range(40), 2))
        net = linked_net(40, links[:399])
        self.assertEqual(len(shattered(net, ())), 400)
        self.assertEqual(len(shattered(net, ((0,), (1,)))), 400)
        self.refuses(TooMany, 401, shattered, net, ((0, 1),))
        self.refuses(TooMany, 401, shattered, linked_net(40, links[:400]), ())
        self.refuses(TooMany, 781, shattered, FULL_40, ())
        self.refuses(TooMany, 1561, shattered, FULL_40, (tuple(range(40)),))
        self.assertEqual(len(shattered(RING_40, (tuple(range(40)),))), 81)

    def test_what_is_no_moment(self):
        for lots in NO_NUMBERS + NO_TUPLES + (((0, 2),), ((),), ((0, 1), (1, 2)), ((2, 3), (0, 1)), ((1, 0),), ((5,),),
                                              ((True,),), ([0, 1],), [(0, 1)], (0, 1), ((0, LARGE),), (BROAD,), BROAD, DEEP):
            if lots != ():
                self.refuses(BadMoments, -1, shattered, R, lots)
        self.refuses(BadMoments, -1, shattered, FULL_40, ((1,), (0,)))


if __name__ == "__main__":
    unittest.main()
