"""Lots of hosts: their votes, whether they hang together and work, and their pieces."""

from fifthhost.bits import bits_hang, bits_of, every_host, lot_of, near_of, pieces_within
from fifthhost.errors import BadLot
from fifthhost.forms import wrong_rising
from fifthhost.nets import made_net


def made_lot(net, thing):
    """The thing, if it is a lot of the net."""
    made_net(net)
    check_lot(net, thing)
    return thing


def check_lot(net, thing):
    """Refuse what is no lot of the net."""
    if type(thing) is not tuple:
        raise BadLot(-1)
    index = wrong_rising(thing, len(net[0]))
    if index is not None:
        raise BadLot(index)


def votes_of(net, lot):
    """The sum of the votes of the hosts of a lot."""
    made_lot(net, lot)
    return sum_of_votes(net, lot)


def sum_of_votes(net, lot):
    """What votes_of tells, of a net and a lot that are known to be right."""
    return sum([net[0][x] for x in lot])


def hangs(net, lot):
    """Whether the lot hangs together."""
    made_lot(net, lot)
    return bits_hang(near_of(net), bits_of(lot))


def works(net, lot):
    """Whether the lot hangs together and has votes enough."""
    return hangs(net, lot) and sum_of_votes(net, lot) >= net[2]


def working_right(net, near, thing):
    """Whether the thing, whatever it is, is a working lot of a right net; near tells its links."""
    if type(thing) is not tuple or wrong_rising(thing, len(near)) is not None:
        return False
    return bits_hang(near, bits_of(thing)) and sum_of_votes(net, thing) >= net[2]


def pieces(net, lot):
    """The pieces of a lot, by least host."""
    made_lot(net, lot)
    return lots_of(pieces_within(near_of(net), bits_of(lot)))


def whole(net):
    """The pieces of the lot of all hosts, by least host."""
    made_net(net)
    near = near_of(net)
    return lots_of(pieces_within(near, every_host(near)))


def apart(one, two):
    """Whether two tuples of numbers have no number in common."""
    return len(set(one) & set(two)) == 0


def lots_of(many_bits):
    """The lots that have these bits, one for each, as they stand."""
    return tuple([lot_of(bits) for bits in many_bits])


def in_order(found):
    """Lots by the order of lots: the shorter one is ahead, of two of one length the lesser tuple."""
    return tuple(sorted(found, key=lambda lot: (len(lot), lot)))
