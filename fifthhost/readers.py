"""Who reads and who commands: lots that meet working lots."""

from fifthhost.bits import bits_of, every_host, lot_of, near_of, pieces_within
from fifthhost.errors import BadLog
from fifthhost.forms import number_from
from fifthhost.judged import all_dealt
from fifthhost.lots import apart, check_lot, made_lot, sum_of_votes, works
from fifthhost.rules import made_rule


def meets_all(net, lot):
    """Whether the lot meets every working lot."""
    return unseen(net, lot) is None


def unseen(net, lot):
    """The first piece of the hosts outside of the lot that works; None if none does."""
    made_lot(net, lot)
    near = near_of(net)
    for bits in pieces_within(near, every_host(near) & ~bits_of(lot)):
        piece = lot_of(bits)
        if sum_of_votes(net, piece) >= net[2]:
            return piece
    return None


def commands(net, lot):
    """Whether the lot works and meets every working lot."""
    return works(net, lot) and meets_all(net, lot)


def meets_log(net, rule, lot, l):
    """Whether the lot meets each working lot that gets the log l."""
    made_rule(net, rule)
    check_lot(net, lot)
    if not number_from(l, 0):
        raise BadLog(l)
    return not any([told == l and apart(one, lot) for one, told in all_dealt(net, rule)])
