"""Houses at work: moments, what a house gives in them, and where it gives one log to two lots at once."""

from fifthhost.bits import bits_hang, bits_of, near_of
from fifthhost.errors import BadMoments, TooMany
from fifthhost.forms import wrong_rising
from fifthhost.houses import Memory, given, made_house
from fifthhost.lots import sum_of_votes
from fifthhost.nets import made_net

MOST_MOMENTS = 400


def made_moments(net, thing):
    """The thing, if it is moments of the net."""
    made_net(net)
    check_moments(net, thing)
    return thing


def check_moments(net, thing):
    """Refuse what are no moments of the net."""
    if type(thing) is not tuple:
        raise BadMoments(-1)
    if len(thing) > MOST_MOMENTS:
        raise TooMany(len(thing))
    near = near_of(net)
    for index, moment in enumerate(thing):
        if not moment_right(near, moment):
            raise BadMoments(index)


def moment_right(near, thing):
    """Whether the thing is a moment: lots that hang, no two with a common host, by least host."""
    if type(thing) is not tuple:
        return False
    ahead = -1
    met = 0
    for lot in thing:
        if type(lot) is not tuple or wrong_rising(lot, len(near)) is not None:
            return False
        bits = bits_of(lot)
        if not bits_hang(near, bits) or bits & met or lot[0] < ahead:
            return False
        ahead = lot[0]
        met |= bits
    return True


def play(net, house, moments):
    """For each moment the pairs of those of its lots that work and the logs that the house gives to them."""
    made_house(net, house)
    check_moments(net, moments)
    memory = Memory(len(net[0]))
    return tuple([moment_played(net, house, memory, moment) for moment in moments])


def moment_played(net, house, memory, moment):
    """What play tells of one moment; the memory keeps what is remembered behind it."""
    # What is given hangs on what was remembered ahead of the moment, so all of it is told before any is kept.
    told = [(lot, given(net, house, memory, lot)) for lot in moment if sum_of_votes(net, lot) >= net[2]]
    memory.keep(moment, told)
    return tuple(told)


def forked(net, house, moments):
    """The index of the first moment in which two lots get one log, and the first two; None if there is none."""
    for index, told in enumerate(play(net, house, moments)):
        pair = first_alike(told)
        if pair is not None:
            return (index,) + pair
    return None


def first_alike(told):
    """The first two lots with one log, of pairs of a lot and its log; None if there are none."""
    for index, (one, log) in enumerate(told):
        for two, other in told[index + 1:]:
            if log == other:
                return (one, two)
    return None
