"""Packings: as many working lots as can be two by two apart."""

from fifthhost.bits import bits_of, every_host, lot_of, near_of, pieces_within
from fifthhost.lots import in_order, lots_of, working_right
from fifthhost.nets import is_net, made_net
from fifthhost.oneblock import packed_block
from fifthhost.tallies import tally_of, with_worth


def packing(net):
    """As many working lots as can be two by two apart, in order."""
    made_net(net)
    tally = tally_of(net, "once")
    return in_order(lots_of(packed(tally, net[0], every_host(tally.near))))


def packing_right(net, lots):
    """Whether the lots are a tuple of working lots of the net that are two by two apart."""
    if not is_net(net) or type(lots) is not tuple:
        return False
    near = near_of(net)
    met = 0
    for lot in lots:
        if not working_right(net, near, lot) or bits_of(lot) & met:
            return False
        met |= bits_of(lot)
    return True


def packed(tally, votes, bits):
    """As many working lots of the hosts of bits as can be two by two apart, as bits."""
    strong = tally.strong_hosts(votes, bits)
    found = [1 << x for x in lot_of(strong)]
    for piece in pieces_within(tally.near, bits ^ strong):
        found.extend(packed_piece(tally, votes, piece))
    return found


def packed_piece(tally, votes, piece):
    """As packed, of a piece in which no host alone has the need."""
    steps, last, raised = tally.taken_off(votes, piece, 0)
    if not steps:
        return packed_block(tally.near, votes, tally.need, piece)
    found = packed(tally, raised, last)
    for step in reversed(steps):
        found = with_step(tally, found, step)
    return found


def with_step(tally, found, step):
    """The lots found beyond a seam, and those of the block that was taken off at it."""
    block, at, _, least, votes = step
    one = 1 << at
    joined = [lot for lot in found if lot & one]
    if not joined:
        return found + packed(tally, votes, block ^ one)
    # The lot that has the cut has the threshold there without what the block lent it, so it serves the block as well.
    told = [lot for lot in found if not lot & one]
    for lot in packed(tally, with_worth(votes, at, least), block):
        told.append(lot | joined[0] if lot & one else lot)
    return told
