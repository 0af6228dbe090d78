"""Nets that fall: their links break one by one, and each part keeps as many logs as can be at work in it at once."""

from fifthhost.bits import bits_hang, every_host, least_host, lot_of, near_of, pieces_within, without_pair
from fifthhost.errors import NoLink, NotWorking
from fifthhost.forms import smaller_first
from fifthhost.lots import lots_of, sum_of_votes
from fifthhost.nets import check_host, made_net
from fifthhost.tallies import tally_of


class Falling:
    """A net whose links break and are never mended; each part holds logs in reserve, which no other part holds."""

    def __init__(self, net):
        made_net(net)
        self.net = net
        self.tally = tally_of(net, "once")
        self.near = near_of(net)
        # For each part, by least host, a pair of its bits and its logs; there are never more logs than hosts.
        self.held = self.shared(every_host(self.near), tuple(range(len(net[0]))))

    def shared(self, bits, logs):
        """For each part of the hosts of bits, by least host, the pair of it and its share of the logs."""
        told = []
        taken = 0
        for part in pieces_within(self.near, bits):
            # The number counts links that are broken, too, so it is asked of the net as it was at first.
            number = self.tally.number(self.net[0], part)
            told.append((part, logs[taken:taken + number]))
            taken += number
        return told

    def parts(self):
        """The parts, by least host."""
        return lots_of([part for part, _ in self.held])

    def reserve(self, x):
        """The logs that the part of a host holds, rising."""
        return self.part_and_logs(x)[1]

    def log(self, x):
        """The least log that the part of a host holds."""
        part, logs = self.part_and_logs(x)
        lot = lot_of(part)
        if sum_of_votes(self.net, lot) < self.net[2]:
            raise NotWorking(lot)
        return logs[0]

    def cut(self, a, b):
        """Break a link, and tell the parts that there are then."""
        check_host(self.net, a)
        check_host(self.net, b)
        if not (self.near[a] >> b) & 1:
            raise NoLink(smaller_first(a, b))
        self.near = without_pair(self.near, a, b)
        part, logs = self.part_and_logs(a)
        if not bits_hang(self.near, part):
            others = [pair for pair in self.held if pair[0] != part]
            self.held = sorted(others + self.shared(part, logs), key=lambda pair: least_host(pair[0]))
        return self.parts()

    def part_and_logs(self, x):
        """The part of a host, as bits, and the logs that it holds."""
        check_host(self.net, x)
        return [pair for pair in self.held if (pair[0] >> x) & 1][0]
