"""Entries of records: their forms, and which of them cover which."""

from fifthhost.cells import key_right, knows_right, name_right
from fifthhost.errors import BadRecord, TooMany
from fifthhost.forms import is_number, number_from, rising_from_zero, tuple_of
from fifthhost.laying import NO_PAIR

MOST_ENTRIES = 60


def check_record(thing):
    """Refuse what is no record."""
    if type(thing) is not tuple:
        raise BadRecord(-1)
    if len(thing) > MOST_ENTRIES:
        raise TooMany(len(thing))
    for index, entry in enumerate(thing):
        if not entry_formed(entry):
            raise BadRecord(index)


def entry_formed(thing):
    """Whether the thing is an entry."""
    if not tuple_of(thing, 7):
        return False
    lot, name, place, number, key, value, knows = thing
    if not rising_from_zero(lot) or lot == () or not name_right(name):
        return False
    if not number_from(place, 0) or not number_from(number, 1) or not key_right(key):
        return False
    return is_number(value) and knows_right(knows)


def pairs_known(entry):
    """The pairs of the names that an entry knows."""
    return {know[:2]: know[2:] for know in entry[6]}


def own_pair(entry):
    """The pair by which an entry is known."""
    return (entry[3], entry[2] + 1)


def covers_by_index(record):
    """For each entry of a record, in their order, for each entry whether it covers it."""
    known = [pairs_known(entry) for entry in record]
    return [[pairs.get(two[1], NO_PAIR) >= own_pair(two) for two in record] for pairs in known]
