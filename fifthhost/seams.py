"""Seams: a host, and a side that is linked to nothing else but this host; both numbers are sums through them."""

from fifthhost.bits import bits_of, near_of
from fifthhost.errors import BadSeam, BadWhich
from fifthhost.forms import number_below, wrong_rising
from fifthhost.netedits import net_by
from fifthhost.nets import check_host, is_net, made_net
from fifthhost.tallies import BOTH, Tally, check_blocks, with_worth


def is_seam(net, v, side):
    """Whether the host and the side are a seam of the net."""
    return is_net(net) and number_below(v, len(net[0])) and seamed(net, v, side)


def seamed(net, v, side):
    """What is_seam tells, of a net and a host of it."""
    if type(side) is not tuple or side == () or wrong_rising(side, len(net[0])) is not None or v in side:
        return False
    near = near_of(net)
    own = bits_of(side) | (1 << v)
    return all([(near[x] & ~own) == 0 for x in side])


def inner(net, v, side, which):
    """The number of the side alone."""
    return checked_tally(net, v, side, which).number(net[0], bits_of(side))


def threshold(net, v, side, which):
    """The least votes of v with which the number of v and the side is greater than that of the side."""
    return checked_tally(net, v, side, which).threshold(net[0], bits_of(side) | (1 << v), v)


def beyond(net, v, side, which):
    """The net without the side, in which v has as many votes more as the side can lend it."""
    least = threshold(net, v, side, which)
    votes, links, need = net
    raised = with_worth(votes, v, votes[v] + need - least)
    return net_by((raised, links, need), [x for x in range(len(votes)) if x not in side])


def checked_tally(net, v, side, which):
    """The tally of a net, when all is right that the functions of seams are asked with."""
    made_net(net)
    check_host(net, v)
    if not seamed(net, v, side):
        raise BadSeam(-1)
    if which not in BOTH:
        raise BadWhich(which)
    tally = Tally(net, which)
    check_blocks(tally.near, bits_of(side) | (1 << v))
    return tally
