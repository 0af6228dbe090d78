"""Captains: as few hosts as can be of which each working lot has one."""

from fifthhost.bits import bits_of, every_host, lot_of, many_bits, near_of
from fifthhost.listing import all_lots, least_working
from fifthhost.longrings import unended
from fifthhost.lots import in_order
from fifthhost.nets import made_net


def captains(net):
    """Any lot, with as few hosts as can be, that meets every working lot."""
    made_net(net)
    near = near_of(net)
    if unended(near, every_host(near)) == 0:
        return captains_of_trees(net, near)
    return first_meeting(len(near), least_working(net))


def first_meeting(many, lots):
    """The first lot of so many hosts, in order, that meets all of these lots."""
    met = [bits_of(lot) for lot in lots]
    return [found for found in in_order(all_lots(many)) if all([bits_of(found) & other for other in met])][0]


def captains_of_trees(net, near):
    """As captains, of a net without a ring: its ends are taken off one by one, and lend their votes further in."""
    worths = list(net[0])
    left = every_host(near)
    found = []
    while left:
        x = some_end(near, left)
        left ^= 1 << x
        # A host is needed only where the hosts behind it could not work without it, but do so with it.
        if worths[x] >= net[2]:
            found.append(x)
        else:
            for y in lot_of(near[x] & left):
                worths[y] += worths[x]
    return tuple(sorted(found))


def some_end(near, left):
    """A host of those left that is linked to one other of them at most."""
    return [x for x in lot_of(left) if many_bits(near[x] & left) < 2][0]
