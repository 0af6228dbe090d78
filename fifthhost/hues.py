"""Hues for points, so that the two points of each pair get unlike ones."""

from fifthhost.bits import near_by
from fifthhost.errors import BadMany, BadPairs
from fifthhost.forms import number_from, wrong_pair
from fifthhost.hueing import fewest_hues, hue_lots

MOST_POINTS = 36


def fewest(many, pairs):
    """The least number of hues that is enough."""
    check_points(many, pairs)
    return fewest_hues(near_by(many, pairs))


def hued(many, pairs, k):
    """The hue of each point, each below k; None if so few hues are not enough."""
    check_points(many, pairs)
    if not number_from(k, 0):
        raise BadMany(k)
    # More hues than points are never of use, and k may be of any size.
    found = hue_lots(near_by(many, pairs), min(k, many))
    if found is None:
        return None
    return tuple([hue_of(found, point) for point in range(many)])


def check_points(many, pairs):
    """Refuse what is no number of points, and what are no pairs of them."""
    if not number_from(many, 0) or many > MOST_POINTS:
        raise BadMany(many)
    if type(pairs) is not tuple:
        raise BadPairs(-1)
    index = wrong_pair(pairs, many)
    if index is not None:
        raise BadPairs(index)


def hue_of(found, point):
    """The index of the lot of points that has this one."""
    return [index for index, bits in enumerate(found) if (bits >> point) & 1][0]
