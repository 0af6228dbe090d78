"""The two numbers of a net: how many lots can be at work at once, and how many logs are enough."""

from fifthhost.bits import every_host
from fifthhost.nets import made_net
from fifthhost.tallies import tally_of


def once(net):
    """How many working lots can be two by two apart."""
    return number_of(net, "once")


def logs(net):
    """How many logs are enough for all working lots, so that two that are apart get unlike ones."""
    return number_of(net, "logs")


def number_of(net, which):
    """The one of the two numbers that is asked for."""
    made_net(net)
    tally = tally_of(net, which)
    return tally.number(net[0], every_host(tally.near))
