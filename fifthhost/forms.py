"""The forms of single things that many files ask for: numbers, tuples, pairs and rising rows."""

MANY_LOGS = 1000


def is_number(thing):
    """Whether the thing is a number."""
    return type(thing) is int


def number_from(thing, least):
    """Whether the thing is a number that is at least the least one."""
    return is_number(thing) and thing >= least


def number_below(thing, many):
    """Whether the thing is one of so many numbers from 0 on, as hosts and points are."""
    return number_from(thing, 0) and thing < many


def tuple_of(thing, many):
    """Whether the thing is a tuple of just so many parts."""
    return type(thing) is tuple and len(thing) == many


def pair_below(thing, many):
    """Whether the thing is a pair of numbers below many, the lesser one first."""
    if not tuple_of(thing, 2):
        return False
    a, b = thing
    return number_below(a, many) and number_below(b, many) and a < b


def wrong_number(things, least):
    """The first index that holds no number from the least one on; None if all are such."""
    for index, thing in enumerate(things):
        if not number_from(thing, least):
            return index
    return None


def wrong_rising(things, many):
    """The first index that holds no number below many, or none greater than the one ahead; None if all rise."""
    ahead = -1
    for index, thing in enumerate(things):
        if not number_below(thing, many) or thing <= ahead:
            return index
        ahead = thing
    return None


def wrong_pair(things, many):
    """The first index that holds no pair below many, or none greater than the one ahead; None if all rise."""
    ahead = (-1, -1)
    for index, thing in enumerate(things):
        if not pair_below(thing, many) or thing <= ahead:
            return index
        ahead = thing
    return None


def rising_from_zero(thing):
    """Whether the thing is a rising tuple of numbers from 0 on, of any size."""
    if type(thing) is not tuple:
        return False
    ahead = -1
    for part in thing:
        if not number_from(part, 0) or part <= ahead:
            return False
        ahead = part
    return True


def rule_log(thing):
    """Whether the thing is a log that may stand in a rule or a house."""
    return number_below(thing, MANY_LOGS)


def smaller_first(a, b):
    """The pair of two numbers with the smaller one first."""
    return (min(a, b), max(a, b))
