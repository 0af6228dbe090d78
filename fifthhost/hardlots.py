"""Lots that are hard to deal: few working lots that alone want as many logs as all of them."""

from fifthhost.bits import bits_of, near_of
from fifthhost.errors import TooMany
from fifthhost.forms import number_from
from fifthhost.hueing import fewest_hues, hue_lots
from fifthhost.listing import least_working
from fifthhost.lots import working_right
from fifthhost.nets import is_net, made_net
from fifthhost.oneblock import apart_from

MOST_HOSTS_HARD = 7
MOST_JUDGED = 36


def hard(net):
    """Working lots that alone want as many logs as all, and fewer if any one of them is left out; in order."""
    made_net(net)
    many = len(net[0])
    if many > MOST_HOSTS_HARD:
        raise TooMany(many)
    # All working lots want no more logs than the least ones, as each may take the log of one within it.
    found = least_working(net)
    needed = fewest_hues(apart_by(found))
    for lot in found:
        fewer = tuple([other for other in found if other != lot])
        if not enough(fewer, needed - 1):
            found = fewer
    return found


def is_hard(net, lots, k):
    """Whether the lots are working ones, and k logs are not enough for them."""
    if not is_net(net) or type(lots) is not tuple or not number_from(k, 0) or len(lots) > MOST_JUDGED:
        return False
    near = near_of(net)
    if not all([working_right(net, near, lot) for lot in lots]) or len(set(lots)) < len(lots):
        return False
    return not enough(lots, k)


def enough(lots, k):
    """Whether k logs are enough for the lots, so that two that are apart get unlike ones."""
    # More logs than lots are never of use, and k may be of any size.
    return hue_lots(apart_by(lots), min(k, len(lots))) is not None


def apart_by(lots):
    """For each lot the bits of the indices of those that are apart from it."""
    return apart_from([bits_of(lot) for lot in lots])
