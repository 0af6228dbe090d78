"""Rings of a net, and long rings, which have five hosts or more."""

from fifthhost.bits import every_host, least_host, lot_of, many_bits, near_of, without_pair
from fifthhost.blocks import blocks_within, kind_of, linked_within, round_from
from fifthhost.forms import number_below
from fifthhost.nets import is_net, made_net

LEAST_RING = 3
LEAST_LONG = 5


def ring_right(net, thing):
    """Whether the thing is a ring of the net."""
    if not is_net(net) or type(thing) is not tuple:
        return False
    many = len(net[0])
    # The length comes first, so that a tuple of very many parts is not gone through.
    if not LEAST_RING <= len(thing) <= many or not all([number_below(x, many) for x in thing]):
        return False
    near = near_of(net)
    linked = all([(near[x] >> thing[index - 1]) & 1 for index, x in enumerate(thing)])
    return linked and len(set(thing)) == len(thing)


def some_ring(net):
    """Any ring of the net; None if there is none."""
    made_net(net)
    near = near_of(net)
    bits = unended(near, every_host(near))
    if bits == 0:
        return None
    return ring_within(near, bits)


def unended(near, bits):
    """The hosts that are left of bits when those with one link or none are taken off again and again."""
    while True:
        ends = [x for x in lot_of(bits) if many_bits(near[x] & bits) < 2]
        if not ends:
            return bits
        for x in ends:
            bits ^= 1 << x


def ring_within(near, bits):
    """A ring of the hosts of bits, each of which has two links or more to others of them."""
    row = [least_host(bits)]
    place = {row[0]: 0}
    behind = 0
    # A walk that never turns back on the spot can always go on, so it comes to a host that it has met.
    while True:
        further = least_host(near[row[-1]] & bits & ~behind)
        if further in place:
            return tuple(row[place[further]:])
        behind = 1 << row[-1]
        place[further] = len(row)
        row.append(further)


def long_ring(net):
    """Any ring of five hosts or more; None if there is none."""
    made_net(net)
    near = near_of(net)
    if not has_long(near, every_host(near)):
        return None
    bits = long_hosts(near)
    near = long_links(near, bits)
    # What cannot lose a host or a link without losing its long rings is one long ring and nothing else.
    return round_from(linked_within(near, lot_of(bits)), least_host(bits))


def has_long(near, bits):
    """Whether the hosts of bits have a long ring."""
    return any([long_block(near, block) for block in blocks_within(near, bits)])


def long_block(near, block):
    """Whether a block has a long ring, which its kind tells."""
    linked = linked_within(near, lot_of(block))
    told = kind_of(linked)
    return told == "other" or told == "ring" and len(linked) >= LEAST_LONG


def long_hosts(near):
    """Hosts that have a long ring, but would not without any one of them."""
    bits = every_host(near)
    for x in range(len(near)):
        if has_long(near, bits ^ (1 << x)):
            bits ^= 1 << x
    return bits


def long_links(near, bits):
    """For each host its links, when all links are taken away without which the hosts of bits still have a long ring."""
    for a in lot_of(bits):
        for b in lot_of(near[a] & bits):
            less = without_pair(near, a, b)
            if has_long(less, bits):
                near = less
    return near
