"""Lists of all lots of a small net: those that hang together, those that work, and the least of these."""

from fifthhost.bits import bits_hang, bits_of, near_of
from fifthhost.errors import TooMany
from fifthhost.lots import in_order, lots_of, sum_of_votes
from fifthhost.nets import made_net

MOST_LISTED = 9


def lots(net):
    """All lots of the net that hang together, in order."""
    made_net(net)
    many = len(net[0])
    if many > MOST_LISTED:
        raise TooMany(many)
    near = near_of(net)
    return in_order([lot for lot in all_lots(many) if bits_hang(near, bits_of(lot))])


def all_lots(many):
    """All lots of so many hosts, () too."""
    found = [()]
    for x in range(many):
        found = found + [lot + (x,) for lot in found]
    return found


def working(net):
    """All lots of the net that work, in order."""
    return tuple([lot for lot in lots(net) if sum_of_votes(net, lot) >= net[2]])


def least_working(net):
    """All lots that work and within which no other lot works, in order."""
    least = []
    # The shorter lots come first, so whatever lies within a lot has been met ahead of it.
    for lot in working(net):
        bits = bits_of(lot)
        if not any([(bits & inner) == inner for inner in least]):
            least.append(bits)
    return lots_of(least)
