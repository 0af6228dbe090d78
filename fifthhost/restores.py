"""Restores: which blank disks are written anew from which lots, what is lost by them, and which of them do harm."""

from fifthhost.bits import bits_hang, bits_of, every_host, lot_of, near_of, piece_within
from fifthhost.errors import BadRestores, Refused, TooMany
from fifthhost.forms import number_below, tuple_of
from fifthhost.judged import all_dealt
from fifthhost.listing import working
from fifthhost.lots import check_lot, sum_of_votes
from fifthhost.nets import is_net, made_net
from fifthhost.rules import lot_formed, made_rule

MOST_RESTORES = 200


def made_restores(net, thing):
    """The thing, if it is restores of the net."""
    made_net(net)
    check_restores(net, thing)
    return thing


def check_restores(net, thing):
    """Refuse what are no restores of the net."""
    if type(thing) is not tuple:
        raise BadRestores(-1)
    if len(thing) > MOST_RESTORES:
        raise TooMany(len(thing))
    near = near_of(net)
    for index, restore in enumerate(thing):
        if not restore_right(near, restore):
            raise BadRestores(index)


def restore_right(near, thing):
    """Whether the thing is a restore of the net whose links near tells."""
    if not tuple_of(thing, 2):
        return False
    x, lot = thing
    if not number_below(x, len(near)) or not lot_formed(len(near), lot):
        return False
    bits = bits_of(lot)
    return not (bits >> x) & 1 and near[x] & bits != 0 and bits_hang(near, bits)


def allowed(net, x, lot):
    """Whether the host may be restored from the lot, as it cannot work with others that are not in the lot."""
    if not is_net(net) or not restore_right(near_of(net), (x, lot)):
        return False
    return sum_of_votes(net, piece_without(net, x, lot)) < net[2]


def piece_without(net, x, lot):
    """The piece with a host of all hosts that are not in a lot."""
    near = near_of(net)
    return lot_of(piece_within(near, every_host(near) & ~bits_of(lot), 1 << x))


def lost(net, restores, lot):
    """The hosts of the lot that can be made ignorant of what the lot alone knew."""
    return tuple(sorted([x for x, _ in loss(net, restores, lot)]))


def loss(net, restores, lot):
    """Restores, one behind another, by which the hosts of the lot are made ignorant that can be."""
    made_restores(net, restores)
    check_lot(net, lot)
    order, _ = order_of_loss(by_bits(restores), bits_of(lot))
    return tuple([restores[index] for index in order])


def by_bits(restores):
    """Restores as pairs of a host and the bits of a lot."""
    return [(x, bits_of(lot)) for x, lot in restores]


def order_of_loss(rows, bits):
    """The indices of restores in an order in which all hosts of bits become ignorant that can; the bits of the rest."""
    order = []
    before = -1
    while before != bits:
        before = bits
        for index, (x, others) in enumerate(rows):
            # A host that is given anew what ignorant hosts know is ignorant from then on.
            if (bits >> x) & 1 and not bits & others:
                order.append(index)
                bits ^= 1 << x
    return order, bits


def loss_right(net, restores, lot, row):
    """Whether the row is restores, one behind another, by which all are made ignorant that can be."""
    try:
        wanted = loss(net, restores, lot)
    except Refused:
        return False
    # The length comes first, so that a tuple of very many parts is not gone through.
    return tuple_of(row, len(wanted)) and loses(net, restores, bits_of(lot), row)


def loses(net, restores, bits, row):
    """Whether each part of the row is one of the restores, and makes one more of the hosts of bits ignorant."""
    near = near_of(net)
    for part in row:
        # True and 1.0 equal hosts, so the form is asked as well.
        if not restore_right(near, part) or part not in restores:
            return False
        x, lot = part
        if not (bits >> x) & 1 or bits & bits_of(lot):
            return False
        bits ^= 1 << x
    return True


def harmful(net, rule, restores):
    """The first two working lots with one log, where the second one may know nothing of the first one; None if none."""
    made_rule(net, rule)
    check_restores(net, restores)
    return first_forgotten(restores, all_dealt(net, rule), False)


def forgetful(net, restores):
    """The first two working lots with a common host, where all that they share may be lost; None if there are none."""
    made_restores(net, restores)
    # Of whatever log they are: all get the same one.
    return first_forgotten(restores, [(lot, 0) for lot in working(net)], True)


def first_forgotten(restores, dealt, meeting):
    """The first two of the lots with one log whose common hosts can all be made ignorant; meeting ones alone, if so."""
    rows = by_bits(restores)
    told = [(bits_of(lot), lot, l) for lot, l in dealt]
    for bits, one, l in told:
        _, left = order_of_loss(rows, bits)
        for others, two, other in told:
            if l == other and not left & others and (bits & others or not meeting):
                return (one, two)
    return None
