"""Rings of a net, and long rings, which have five hosts or more."""

from fifthhost.bits import every_host, least_host, lot_of, many_bits, near_of, piece_within
from fifthhost.blocks import blocks_within, kind_of, linked_within, round_from
from fifthhost.forms import number_below
from fifthhost.hueing import paired_with
from fifthhost.nets import is_net, made_net

LEAST_RING = 3
LEAST_LONG = 5


def ring_right(net, thing):
    """Whether the thing is a ring of the net."""
    if not is_net(net) or type(thing) is not tuple:
        return False
    many = len(net[0])
    # The length comes first, so that a tuple of very many parts is not gone through.
    if not LEAST_RING <= len(thing) <= many or not all([number_below(x, many) for x in thing]):
        return False
    near = near_of(net)
    linked = all([(near[x] >> thing[index - 1]) & 1 for index, x in enumerate(thing)])
    return linked and len(set(thing)) == len(thing)


def some_ring(net):
    """Any ring of the net; None if there is none."""
    made_net(net)
    near = near_of(net)
    bits = unended(near, every_host(near))
    if bits == 0:
        return None
    return ring_within(near, bits)


def unended(near, bits):
    """The hosts that are left of bits when those with one link or none are taken off again and again."""
    while True:
        ends = [x for x in lot_of(bits) if many_bits(near[x] & bits) < 2]
        if not ends:
            return bits
        for x in ends:
            bits ^= 1 << x


def ring_within(near, bits):
    """A ring of the hosts of bits, each of which has two links or more to others of them."""
    row = [least_host(bits)]
    place = {row[0]: 0}
    behind = 0
    # A walk that never turns back on the spot can always go on, so it comes to a host that it has met.
    while True:
        further = least_host(near[row[-1]] & bits & ~behind)
        if further in place:
            return tuple(row[place[further]:])
        behind = 1 << row[-1]
        place[further] = len(row)
        row.append(further)


def long_ring(net):
    """Any ring of five hosts or more; None if there is none."""
    made_net(net)
    near = near_of(net)
    for block in blocks_within(near, every_host(near)):
        if long_block(near, block):
            return long_ring_of(near, block)
    return None


def has_long(near, bits):
    """Whether the hosts of bits have a long ring."""
    return any([long_block(near, block) for block in blocks_within(near, bits)])


def long_block(near, block):
    """Whether a block has a long ring, which its kind tells."""
    linked = linked_within(near, lot_of(block))
    told = kind_of(linked)
    return told == "other" or told == "ring" and len(linked) >= LEAST_LONG


def long_ring_of(near, block):
    """A long ring of a block that has one."""
    linked = linked_within(near, lot_of(block))
    if kind_of(linked) == "ring":
        return round_from(linked, least_host(block))
    # A link over which no long ring goes has its ends on each long ring, and none has more than six hosts then, so that
    # there are nine such links at most.
    links = [(a, b) for a in linked for b in linked[a] if a < b]
    found = None
    while found is None:
        a, b = links.pop()
        found = long_ring_over(near, block, a, b)
    return found


def long_ring_over(near, block, a, b):
    """A long ring of the hosts of a block that goes over the link of a and b; None if there is none."""
    others = block & ~(1 << a) & ~(1 << b)
    for c in lot_of(near[a] & others):
        rest = others ^ (1 << c)
        left = near[c] & rest
        while left:
            piece = piece_within(near, rest, left & -left)
            row = row_between(near, piece, near[c] & piece, near[b])
            if row is not None:
                return (b, a, c) + row
            left &= ~piece
    return None


def row_between(near, piece, begins, ends):
    """Two hosts or more of a piece, each linked to the next one, from one of begins to one of ends; None if none do."""
    ends &= piece
    if not ends or many_bits(begins | ends) < 2:
        return None
    # One of the two is chosen so that something else is left for the other one.
    begin = least_host(begins & ~ends if begins & ~ends else begins)
    end = least_host(ends & ~(1 << begin))
    return shortest_row(near, piece, begin, end)


def shortest_row(near, piece, begin, end):
    """As few hosts of a piece as can be, each linked to the next one, from the one host to the other."""
    layers = [1 << begin]
    met = layers[0]
    while not (met >> end) & 1:
        layers.append(paired_with(near, layers[-1]) & piece & ~met)
        met |= layers[-1]
    row = [end]
    for layer in reversed(layers[:-1]):
        row.append(least_host(layer & near[row[-1]]))
    return tuple(row[::-1])
