"""Rules: into which log a working lot writes, told by its members alone."""

from fifthhost.errors import BadRule, Refused, TooMany
from fifthhost.forms import number_below, number_from, rule_log, tuple_of, wrong_rising
from fifthhost.nets import made_net

MOST_PARTS = 400
MOST_PATH = 60


def made_rule(net, thing):
    """The thing, if it is a rule of the net."""
    made_net(net)
    left = [((), thing)]
    met = 0
    while left:
        path, part = left.pop()
        met += 1
        if met > MOST_PARTS:
            raise TooMany(met)
        if len(path) > MOST_PATH or not formed(len(net[0]), part):
            raise BadRule(path)
        # The last one that is put there is the next one that is looked at.
        for index in reversed(WITHIN[part[0]]):
            left.append((path + (index,), part[index]))
    return thing


def is_rule(net, thing):
    """Whether the net is one, and the thing a rule of it."""
    try:
        made_rule(net, thing)
    except Refused:
        return False
    return True


def formed(many, part):
    """Whether a part of a rule has a right form, in a net of so many hosts."""
    if type(part) is not tuple or part == () or type(part[0]) is not str or part[0] not in FORMS:
        return False
    right = FORMS[part[0]]
    return right(many, part)


def one_formed(many, part):
    """Whether a part is a right ("one", l)."""
    return len(part) == 2 and rule_log(part[1])


def has_formed(many, part):
    """Whether a part has the form ("has", x, l, ..)."""
    return len(part) == 4 and number_below(part[1], many) and rule_log(part[2])


def seam_formed(many, part):
    """Whether a part has the form ("seam", v, side, z, g, .., ..)."""
    if len(part) != 7:
        return False
    _, v, side, z, g, _, _ = part
    if not number_below(v, many) or not number_from(z, 0) or not number_from(g, 0):
        return False
    return lot_formed(many, side) and v not in side


def ring_formed(many, part):
    """Whether a part is a right ("ring", hosts, starts, many, l)."""
    if len(part) != 5:
        return False
    _, hosts, starts, shared, l = part
    if not around_formed(many, hosts) or not lot_formed(len(hosts), starts):
        return False
    return number_from(shared, 1) and shared <= len(starts) and rule_log(l)


def table_formed(many, part):
    """Whether a part is a right ("table", rows)."""
    if len(part) != 2 or type(part[1]) is not tuple:
        return False
    ahead = (0, ())
    for row in part[1]:
        if not tuple_of(row, 2) or not lot_formed(many, row[0]) or not rule_log(row[1]):
            return False
        if (len(row[0]), row[0]) <= ahead:
            return False
        ahead = (len(row[0]), row[0])
    return True


def lot_formed(many, thing):
    """Whether the thing is a rising tuple of one number or more below many, as the lots of rules are."""
    return type(thing) is tuple and thing != () and wrong_rising(thing, many) is None


def around_formed(many, thing):
    """Whether the thing is a tuple of three or more unlike numbers below many, as the hosts of rings are."""
    if type(thing) is not tuple or not 3 <= len(thing) <= many:
        return False
    return all([number_below(x, many) for x in thing]) and len(set(thing)) == len(thing)


FORMS = {"one": one_formed, "has": has_formed, "seam": seam_formed, "ring": ring_formed, "table": table_formed}
# For each word the indices of a part at which the rules within it stand.
WITHIN = {"one": (), "has": (3,), "seam": (5, 6), "ring": (), "table": ()}
