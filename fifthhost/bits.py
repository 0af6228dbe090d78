"""Lots as the bits of one number, for quick work within: the host x is the bit of the worth 2 to the x."""


def near_of(net):
    """For each host of a net the bits of the hosts that are linked to it."""
    return near_by(len(net[0]), net[1])


def near_by(many, pairs):
    """For each of so many numbers from 0 on the bits of those that are in a pair with it."""
    near = [0] * many
    for a, b in pairs:
        near[a] |= 1 << b
        near[b] |= 1 << a
    return near


def with_pair(near, a, b):
    """For each host the bits of those linked to it, with the link of a and b."""
    more = list(near)
    more[a] |= 1 << b
    more[b] |= 1 << a
    return more


def without_pair(near, a, b):
    """For each host the bits of those linked to it, without the link of a and b."""
    less = list(near)
    less[a] &= ~(1 << b)
    less[b] &= ~(1 << a)
    return less


def every_host(near):
    """The bits of all hosts of a net."""
    return (1 << len(near)) - 1


def bits_of(lot):
    """The bits of the hosts of a lot."""
    bits = 0
    for x in lot:
        bits |= 1 << x
    return bits


def lot_of(bits):
    """The lot of the hosts that have these bits."""
    return tuple([x for x in range(bits.bit_length()) if (bits >> x) & 1])


def many_bits(bits):
    """How many hosts have these bits."""
    return f"{bits:b}".count("1")


def least_host(bits):
    """The least of the hosts that have these bits, of which there is one at least."""
    # A number and its negative have just their lowest bit in common.
    return (bits & -bits).bit_length() - 1


def piece_within(near, bits, seed):
    """The piece of the hosts of bits that has the one host whose bit is the seed."""
    rest = bits ^ seed
    edge = seed
    while edge:
        x = edge.bit_length() - 1
        found = near[x] & rest
        rest ^= found
        edge ^= found | (1 << x)
    return bits ^ rest


def pieces_within(near, bits):
    """The pieces of the hosts of bits, by least host."""
    pieces = []
    rest = bits
    while rest:
        piece = piece_within(near, rest, 1 << least_host(rest))
        pieces.append(piece)
        rest ^= piece
    return pieces


def bits_hang(near, bits):
    """Whether the hosts of bits hang together; no hosts at all do not."""
    return bits > 0 and piece_within(near, bits, 1 << least_host(bits)) == bits
