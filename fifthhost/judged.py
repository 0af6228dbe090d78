"""Rules judged: what a rule does to all working lots of a small net."""

from fifthhost.bits import bits_of
from fifthhost.dealing import log_by
from fifthhost.errors import Unruled
from fifthhost.listing import MOST_LISTED, working
from fifthhost.rules import is_rule, made_rule


def used(net, rule):
    """The logs that the working lots get, rising."""
    made_rule(net, rule)
    return tuple(sorted(set([l for _, l in all_dealt(net, rule)])))


def clash(net, rule):
    """None if the rule is right; otherwise the first unruled lot alone, or the first two apart with one log."""
    made_rule(net, rule)
    rows = dealt(net, rule)
    for lot, l in rows:
        if l is None:
            return (lot,)
    return first_clash(rows)


def is_right(net, rule):
    """Whether the net is a small one, and the rule a right rule of it."""
    return is_rule(net, rule) and len(net[0]) <= MOST_LISTED and clash(net, rule) is None


def dealt(net, rule):
    """For each working lot of a small net, in order, the pair of it and its log; None is that of an unruled one."""
    return [(lot, log_by(net[0], rule, lot)) for lot in working(net)]


def all_dealt(net, rule):
    """As dealt, but an unruled lot is refused."""
    rows = dealt(net, rule)
    for lot, l in rows:
        if l is None:
            raise Unruled(lot)
    return rows


def first_clash(rows):
    """The first two of the lots that are apart and have one log; None if there are none."""
    told = [(bits_of(lot), lot, l) for lot, l in rows]
    for index, (bits, one, l) in enumerate(told):
        for others, two, other in told[index + 1:]:
            if l == other and not bits & others:
                return (one, two)
    return None
