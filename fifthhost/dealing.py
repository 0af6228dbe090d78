"""What a rule means: the log that it tells a working lot."""

from fifthhost.errors import NotWorking, Unruled
from fifthhost.lots import works
from fifthhost.rules import made_rule
from fifthhost.tallies import with_worth
from fifthhost.walks import last_start


def log_of(net, rule, lot):
    """The log that a rule of the net tells a working lot."""
    made_rule(net, rule)
    if not works(net, lot):
        raise NotWorking(lot)
    told = log_by(net[0], rule, lot)
    if told is None:
        raise Unruled(lot)
    return told


def log_by(votes, rule, lot):
    """The log that a right rule tells a lot of hosts with these votes; None if the lot is unruled."""
    word = rule[0]
    if word == "one":
        return rule[1]
    if word == "has":
        return rule[2] if rule[1] in lot else log_by(votes, rule[3], lot)
    if word == "seam":
        return log_by_seam(votes, rule, lot)
    if word == "ring":
        return log_by_ring(rule, lot)
    return log_by_table(rule, lot)


def log_by_seam(votes, rule, lot):
    """As log_by, of a rule that is a seam."""
    _, v, side, z, g, first, second = rule
    within = [x for x in lot if x in side]
    rest = [x for x in lot if x not in side]
    if within and v not in lot:
        return log_by(with_worth(votes, v, max(0, z - 1)), first, lot)
    if within and sum([votes[x] for x in rest]) < z:
        return log_by(with_worth(votes, v, z - 1), first, tuple(sorted(within + [v])))
    return log_by(with_worth(votes, v, votes[v] + g), second, tuple(rest))


def log_by_ring(rule, lot):
    """As log_by, of a rule that is a ring."""
    _, hosts, starts, shared, l = rule
    held = [x for x in hosts if x in lot]
    begins = [i for i, x in enumerate(hosts) if x in lot and hosts[i - 1] not in lot]
    if len(held) < len(lot) or len(begins) > 1:
        return None
    # Only of all hosts round the ring there is none whose neighbour ahead is missing.
    begin = begins[0] if begins else 0
    return l + last_start(starts, begin) * shared // len(starts)


def log_by_table(rule, lot):
    """As log_by, of a rule that is a table."""
    for told, l in rule[1]:
        if told == lot:
            return l
    return None
