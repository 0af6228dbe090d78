"""What breaks a house: two moments in which it is forked, and moments of a net all of whose links break."""

from fifthhost.bits import every_host, near_of, pieces_within, with_pair, without_pair
from fifthhost.errors import BadMoments, TooMany
from fifthhost.houses import Memory, given, made_house
from fifthhost.judged import first_clash
from fifthhost.listing import working
from fifthhost.lots import lots_of, whole
from fifthhost.nets import made_net
from fifthhost.playing import MOST_MOMENTS, first_alike, moment_played, moment_right

MOST_BROKEN = 7


def broken(net, house):
    """Two moments, the first with all links whole, that the house forks; None if there are none."""
    made_house(net, house)
    many = len(net[0])
    if many > MOST_BROKEN:
        raise TooMany(many)
    moment = whole(net)
    memory = Memory(many)
    if first_alike(moment_played(net, house, memory, moment)) is not None:
        return (moment, moment)
    # What a lot is given hangs on its own hosts alone, so two that are apart get the same as each by itself.
    pair = first_clash([(lot, given(net, house, memory, lot)) for lot in working(net)])
    if pair is None:
        return None
    return (moment, tuple(sorted(pair)))


def shattered(net, lots):
    """The moments of a net all of whose links break, one by one, and of which those within the lots are mended."""
    made_net(net)
    near = near_of(net)
    if not moment_right(near, lots):
        raise BadMoments(-1)
    mended = [link for link in net[1] if any([link[0] in lot and link[1] in lot for lot in lots])]
    many = 1 + len(net[1]) + len(mended)
    if many > MOST_MOMENTS:
        raise TooMany(many)
    told = [pieces_by(near)]
    for a, b in net[1]:
        near = without_pair(near, a, b)
        told.append(pieces_by(near))
    for a, b in mended:
        near = with_pair(near, a, b)
        told.append(pieces_by(near))
    return tuple(told)


def pieces_by(near):
    """All pieces that the links leave, by least host."""
    return lots_of(pieces_within(near, every_host(near)))
