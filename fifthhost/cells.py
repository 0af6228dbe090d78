"""The forms of what a cluster's hosts keep: knows, rows of a log, and cells."""

from fifthhost.forms import number_below, number_from, rising_from_zero, tuple_of

MANY_KEYS = 1000


def knows_right(thing):
    """Whether the thing has the form of knows."""
    if type(thing) is not tuple:
        return False
    ahead = (-1, -1)
    for part in thing:
        if not know_right(part) or part[:2] <= ahead:
            return False
        ahead = part[:2]
    return True


def know_right(thing):
    """Whether the thing is (e, l, number, length), as knows have them."""
    if not tuple_of(thing, 4):
        return False
    return all([number_from(part, 0) for part in thing[:2]]) and all([number_from(part, 1) for part in thing[2:]])


def row_right(thing):
    """Whether the thing has the form of a row."""
    if not tuple_of(thing, 4):
        return False
    number, key, value, knows = thing
    return number_from(number, 1) and number_below(key, MANY_KEYS) and type(value) is int and knows_right(knows)


def cell_right(thing):
    """Whether the thing has the form of a cell."""
    if not tuple_of(thing, 5):
        return False
    promise, taken, opener, rows, sure = thing
    if not all([number_from(part, 0) for part in (promise, taken, sure)]) or not rising_from_zero(opener):
        return False
    return type(rows) is tuple and all([row_right(row) for row in rows])
