"""The forms of what a cluster's hosts keep: names of logs, knows, rows of a log, and cells."""

from fifthhost.errors import BadName
from fifthhost.forms import is_number, number_below, number_from, rising_from_zero, tuple_of

MANY_KEYS = 1000


def name_right(thing):
    """Whether the thing has the form of the name of a log."""
    return tuple_of(thing, 2) and all([number_from(part, 0) for part in thing])


def check_name(thing):
    """Refuse what is no name of a log."""
    if not name_right(thing):
        raise BadName(thing)


def key_right(thing):
    """Whether the thing is a key."""
    return number_below(thing, MANY_KEYS)


def knows_right(thing):
    """Whether the thing has the form of knows."""
    if type(thing) is not tuple:
        return False
    ahead = (-1, -1)
    for part in thing:
        if not know_right(part) or part[:2] <= ahead:
            return False
        ahead = part[:2]
    return True


def know_right(thing):
    """Whether the thing is (e, l, number, length), as knows have them."""
    if not tuple_of(thing, 4):
        return False
    return name_right(thing[:2]) and all([number_from(part, 1) for part in thing[2:]])


def row_right(thing):
    """Whether the thing has the form of a row."""
    if not tuple_of(thing, 4):
        return False
    number, key, value, knows = thing
    return number_from(number, 1) and key_right(key) and is_number(value) and knows_right(knows)


def rows_right(thing):
    """Whether the thing is a tuple of rows."""
    return type(thing) is tuple and all([row_right(row) for row in thing])


def cell_right(thing):
    """Whether the thing has the form of a cell."""
    if not tuple_of(thing, 5):
        return False
    promise, taken, opener, rows, sure = thing
    if not all([number_from(part, 0) for part in (promise, taken, sure)]) or not rising_from_zero(opener):
        return False
    return rows_right(rows)
