"""Limits, [0.4]: all is told quickly for nets of forty hosts, also with votes and needs of hundreds of figures."""

import unittest
from time import perf_counter

from fifthhost.blocks import blocks, cuts, hubs_of, kind, round_of
from fifthhost.errors import Refused
from fifthhost.listing import least_working, lots, working
from fifthhost.lots import apart, hangs, pieces, votes_of, whole, works
from fifthhost.netedits import beside, cut_net, renamed, with_host, with_link, with_need, with_votes, without_host
from fifthhost.netedits import without_link
from fifthhost.nets import is_net, made_net
from tests.common import BARE_40, BROAD, FULL_40, LARGE, LARGE_40, RING_40, linked_net

# Far more than a call takes, so that a busy machine does not matter, and far less than trying all lots or ways.
SECONDS = 2
ALL_40 = tuple(range(40))
HUGE = 10 ** 4198
HUGE_40 = ((HUGE,) * 40, FULL_40[1], 40 * HUGE)
CHAIN_40 = linked_net(40, [(x, x + 1) for x in range(39)] + [(x, x + 2) for x in range(0, 38, 2)])
HUBS_40 = linked_net(40, [(0, 1)] + [(hub, x) for hub in (0, 1) for x in range(2, 40)])
GRID_40 = linked_net(40, [(x, x + 1) for x in range(39) if x % 8 != 7] + [(x, x + 8) for x in range(32)])
NETS = (BARE_40, RING_40, FULL_40, LARGE_40, HUGE_40, CHAIN_40, HUBS_40, GRID_40)

CALLS = (
    (made_net,), (is_net,), (with_votes, 39, LARGE), (with_need, HUGE), (with_link, 0, 39), (without_link, 0, 39),
    (with_host, 0), (cut_net, ALL_40), (without_host, 20), (renamed, ALL_40[::-1]), (beside, ((), (), 3)),
    (votes_of, ALL_40), (hangs, ALL_40), (works, ALL_40), (pieces, ALL_40[::2]), (whole,), (lots,), (working,),
    (least_working,), (cuts,), (blocks,), (kind, ALL_40), (round_of, ALL_40), (hubs_of, ALL_40),
)


class Quick(unittest.TestCase):

    def within(self, function, *args):
        begin = perf_counter()
        try:
            function(*args)
        except Refused:
            pass
        self.assertLess(perf_counter() - begin, SECONDS, function.__name__)

    def test_forty_hosts(self):
        for net in NETS:
            for function, *others in CALLS:
                self.within(function, net, *others)

    def test_nine_hosts(self):
        votes = tuple(LARGE + x for x in range(9))
        net = (votes, tuple((a, b) for a in range(9) for b in range(a + 1, 9)), 4 * LARGE)
        for function in (lots, working, least_working):
            self.within(function, net)

    def test_large_wrong_things(self):
        thing = (BROAD,) * 2
        for wrong in (BROAD, thing, (thing, 1, 2), ((1, 1), BROAD, 1), ((1, 1), (BROAD,), 1), ((BROAD,), (), 1)):
            self.within(made_net, wrong)
            for function in (kind, round_of, hubs_of, pieces, works, renamed, cut_net):
                self.within(function, FULL_40, wrong)

    def test_apart_of_many_numbers(self):
        self.within(apart, BROAD[:150000], BROAD[150000:])


if __name__ == "__main__":
    unittest.main()
