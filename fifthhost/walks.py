"""Walks round a ring that is told by its votes alone, and the logs that its working parts get."""

from fifthhost.errors import BadHost, BadTimes, BadVotes, NotWorking
from fifthhost.forms import number_below, number_from, wrong_number
from fifthhost.nets import check_need

LEAST_AROUND = 3
MOST_AROUND = 200
MOST_TIMES = 99


def walk(votes, need):
    """The hosts that the walk meets for ever, and its rounds meanwhile; None if the votes are too few."""
    check_around(votes)
    check_need(need)
    return walk_by(votes, need)


def ring_numbers(votes, need, t):
    """How many parts can work apart, and how many logs are enough if each part gets t."""
    check_ring(votes, need, t)
    return numbers_by(votes, need, t)


def ring_deal(votes, need, t, begin):
    """The t logs, rising, of a working part that begins at a host."""
    check_ring(votes, need, t)
    if not number_below(begin, len(votes)):
        raise BadHost(begin)
    told = walk_by(votes, need)
    if told is None:
        raise NotWorking(())
    starts, rounds = told
    many = len(starts)
    if many < 2 * rounds:
        return tuple(range(t))
    every = numbers_by(votes, need, t)[1]
    first = last_start(starts, begin) * every // many
    return tuple(sorted([(first + s) % every for s in range(t)]))


def check_around(votes):
    """Refuse what are no votes of the hosts round a ring."""
    if type(votes) is not tuple or not LEAST_AROUND <= len(votes) <= MOST_AROUND:
        raise BadVotes(-1)
    place = wrong_number(votes, 0)
    if place is not None:
        raise BadVotes(place)


def check_ring(votes, need, t):
    """Refuse what are no votes round a ring, no need, and no number of logs for each part."""
    check_around(votes)
    check_need(need)
    check_times(t)


def check_times(t):
    """Refuse what is no number of logs for each part."""
    if not number_from(t, 1) or t > MOST_TIMES:
        raise BadTimes(t)


def walk_by(votes, need):
    """What walk tells, of votes and a need that are known to be right."""
    if sum(votes) < need:
        return None
    many = len(votes)
    ends = ends_of(votes, need)
    at = 0
    # The hosts that are met once only come at the beginning, so after so many steps none of them is left.
    for _ in range(many):
        at = ends[at] % many
    starts = []
    gone = 0
    while at not in starts:
        starts.append(at)
        gone += ends[at] - at
        at = ends[at] % many
    return (tuple(sorted(starts)), gone // many)


def ends_of(votes, need):
    """For each host of a ring the f of the document: the first place by which the need is reached from that host."""
    many = len(votes)
    ends = []
    end = 0
    held = 0
    for i in range(many):
        while held < need:
            held += votes[end % many]
            end += 1
        ends.append(end)
        held -= votes[i]
    return ends


def numbers_by(votes, need, t):
    """What ring_numbers tells, of arguments that are known to be right."""
    told = walk_by(votes, need)
    if told is None:
        return (0, 0)
    starts, rounds = told
    many = len(starts)
    if many < 2 * rounds:
        return (1, t)
    return (many // rounds, (t * many + rounds - 1) // rounds)


def last_start(starts, begin):
    """The index of the last start that is at most begin; of the last one of all if there is none."""
    passed = [j for j, start in enumerate(starts) if start <= begin]
    return passed[-1] if passed else len(starts) - 1


def parts_apart(votes, need):
    """As many working parts of a ring as can be two by two apart, each with its hosts in their order."""
    told = walk_by(votes, need)
    if told is None:
        return []
    starts, rounds = told
    many = len(votes)
    ends = ends_of(votes, need)
    # From each start the need is reached just where so many starts further on another one stands.
    begins = [starts[k * rounds] for k in range(len(starts) // rounds)]
    return [[i % many for i in range(begin, ends[begin])] for begin in begins]
