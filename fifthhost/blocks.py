"""Cuts and blocks of a net, the kinds of blocks, and what rings and hubs of blocks are."""

from fifthhost.bits import bits_of, every_host, lot_of, near_of, pieces_within
from fifthhost.errors import BadBlock
from fifthhost.forms import wrong_rising
from fifthhost.lots import in_order, lots_of
from fifthhost.nets import made_net


def cuts(net):
    """All cuts of the net, rising."""
    made_net(net)
    near = near_of(net)
    return tuple(cut_hosts(near, every_host(near)))


def cut_hosts(near, bits):
    """All hosts of bits without which the others of their piece of bits fall apart, rising."""
    found = []
    for piece in pieces_within(near, bits):
        for x in lot_of(piece):
            if len(pieces_within(near, piece ^ (1 << x))) > 1:
                found.append(x)
    return sorted(found)


def blocks(net):
    """All blocks of the net, in order."""
    made_net(net)
    near = near_of(net)
    return blocks_by(near, every_host(near))


def blocks_by(near, bits):
    """All blocks of the net of the hosts of bits alone, in order."""
    return in_order(lots_of(blocks_within(near, bits)))


def blocks_within(near, bits):
    """The blocks of the hosts of bits, as bits: what is left of the pieces when they are split at each cut."""
    found = pieces_within(near, bits)
    for x in cut_hosts(near, bits):
        found = split_at(near, found, x)
    return found


def split_at(near, found, x):
    """The lots found, but the one that has the cut x falls into its pieces behind x, each with x."""
    one = 1 << x
    after = []
    for bits in found:
        if bits & one:
            after.extend([piece | one for piece in pieces_within(near, bits ^ one)])
        else:
            after.append(bits)
    return after


def kind(net, block):
    """The kind of a block, as a text."""
    return kind_of(linked_in(net, block))


def linked_in(net, block):
    """For each host of a block the hosts of it that it is linked to; what is no block is refused."""
    made_net(net)
    near = near_of(net)
    # True and 1.0 equal hosts, so the form is asked before the blocks are.
    if type(block) is not tuple or wrong_rising(block, len(near)) is not None:
        raise BadBlock(block)
    if block not in blocks_by(near, every_host(near)):
        raise BadBlock(block)
    return linked_within(near, block)


def linked_within(near, block):
    """For each host of a block the lot of those hosts of it that it is linked to."""
    bits = bits_of(block)
    return {x: lot_of(near[x] & bits) for x in block}


def kind_of(linked):
    """The kind of a block of which the hosts are told that each one is linked to."""
    many = len(linked)
    if many == 1:
        return "host"
    if many == 2:
        return "link"
    if all([len(lot) == 2 for lot in linked.values()]):
        return "ring"
    if many == 4:
        return "four"
    if hubbed(linked):
        return "hubs"
    return "other"


def busy_hosts(linked):
    """The hosts with more than two links in their block, rising; of a block of hubs these are the hubs."""
    return tuple([x for x in linked if len(linked[x]) > 2])


def hubbed(linked):
    """Whether a block of five hosts or more has two hubs, and all its other hosts are linked to just these."""
    hubs = busy_hosts(linked)
    return len(hubs) == 2 and all([linked[x] == hubs for x in linked if x not in hubs])


def round_of(net, block):
    """The hosts of a ring in their order round it."""
    return round_from(linked_as(net, block, "ring"), block[0])


def round_from(linked, first):
    """The hosts of a ring round it, from the first one on to the lesser one of its two neighbours."""
    row = [first, linked[first][0]]
    while len(row) < len(linked):
        one, two = linked[row[-1]]
        row.append(two if one == row[-2] else one)
    return tuple(row)


def hubs_of(net, block):
    """The two hubs of a block of hubs, rising."""
    return busy_hosts(linked_as(net, block, "hubs"))


def linked_as(net, block, wanted):
    """What linked_in tells of a block of the wanted kind; other blocks are refused, too."""
    linked = linked_in(net, block)
    if kind_of(linked) != wanted:
        raise BadBlock(block)
    return linked
