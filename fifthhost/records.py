"""Records, and whether a record is right by a rule of a net."""

from fifthhost.bits import bits_of
from fifthhost.dealing import log_by
from fifthhost.entries import check_record, covers_by_index
from fifthhost.errors import Refused
from fifthhost.listing import MOST_LISTED, working
from fifthhost.rules import is_rule


def made_record(thing):
    """The thing, if it is a record."""
    check_record(thing)
    return thing


def record_right(net, rule, record):
    """Whether the record is one that the net may have by the rule."""
    try:
        made_record(record)
    except Refused:
        return False
    if not is_rule(net, rule) or len(net[0]) > MOST_LISTED or not all_ruled(net, rule, record):
        return False
    table = covers_by_index(record)
    return names_rise(record) and meeting_covered(record, table) and order_kept(table)


def all_ruled(net, rule, record):
    """Whether each lot of the record works, and has the name that the rule tells it."""
    lots = {lot: True for lot in working(net)}
    return all([entry[0] in lots and entry[1] == (0, log_by(net[0], rule, entry[0])) for entry in record])


def names_rise(record):
    """Whether of two entries with one name the later one has the greater place, and no lesser number."""
    last = {}
    for entry in record:
        _, name, place, number = entry[:4]
        if name in last and (place <= last[name][0] or number < last[name][1]):
            return False
        last[name] = (place, number)
    return True


def meeting_covered(record, table):
    """Whether each entry covers every earlier one whose lot has a host of its own."""
    lots = [bits_of(entry[0]) for entry in record]
    return all([table[j][i] for j in range(len(record)) for i in range(j) if lots[i] & lots[j]])


def order_kept(table):
    """Whether each entry covers what is covered by one that it covers, and none covers itself or a later one."""
    rows = [bits_of([i for i, told in enumerate(row) if told]) for row in table]
    for j, row in enumerate(rows):
        # With earlier ones alone in a row, all that is covered lies below the bit of the entry itself.
        if row >> j or any([rows[i] & ~row for i in range(j) if (row >> i) & 1]):
            return False
    return True
