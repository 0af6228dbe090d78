"""What the tests share: nets, wrong things, strict comparison, and slow functions that follow the document's words."""

import unittest
from itertools import combinations

from fifthhost.errors import Refused

# The two nets r and s of the document, and the two triangles of [10].
R = ((1, 1, 1, 1, 1), ((0, 1), (0, 4), (1, 2), (2, 3), (3, 4)), 2)
S = ((3, 0, 2), ((0, 1), (1, 2)), 4)
TRIANGLES = ((1, 1, 1, 1, 1), ((0, 1), (0, 2), (1, 2), (2, 3), (2, 4), (3, 4)), 2)
EMPTY = ((), (), 1)
ONE = ((0,), (), 1)

LARGE = 7 ** 900
BARE_40 = ((1,) * 40, (), 3)
RING_40 = ((1,) * 40, tuple(sorted([(x, x + 1) for x in range(39)] + [(0, 39)])), 3)
FULL_40 = ((1,) * 40, tuple(combinations(range(40), 2)), 3)
LARGE_40 = (tuple(LARGE + x for x in range(40)), FULL_40[1], 40 * LARGE + 780)
BARE_41 = ((1,) * 41, (), 3)


def nested(depth):
    """A tuple with a tuple in it, and so on, as deep as told."""
    thing = ()
    for _ in range(depth - 1):
        thing = (thing,)
    return thing


DEEP = nested(80)
BROAD = tuple(range(299000))
NAN = float("nan")

# Things that are neither numbers nor tuples of just two or three right parts.
NO_NUMBERS = (True, False, None, 0.0, 1.0, 2.5, NAN, float("inf"), "", "0", "1", (), (0,), [], [1], DEEP, BROAD)
NO_TUPLES = (True, None, 0, 1, 1.0, "", "01", "0, 1", [], [0], [0, 1], [(0, 1)], [[1], [], 1])

NET_ERRORS = (
    (None, "BadNet", -1),
    (5, "BadNet", -1),
    ("net", "BadNet", -1),
    ([(1,), (), 1], "BadNet", -1),
    ((), "BadNet", -1),
    (((1,), ()), "BadNet", -1),
    (((1,), (), 1, 1), "BadNet", -1),
    (([1], (), 1), "BadVotes", -1),
    (BARE_41, "TooMany", 41),
    (((1, 1.0), (), 1), "BadVotes", 1),
    (((1, -1), (), 1), "BadVotes", 1),
    (((1, 1), [], 1), "BadLinks", -1),
    (((1, 1), ((0, 2),), 1), "BadLinks", 0),
    (((1, 1), (), 0), "BadNeed", 0),
    (((1, 1), (), True), "BadNeed", True),
)


def linked_net(many, links, votes=None, need=1):
    """A net of so many hosts with these links, one vote each unless votes are told."""
    return (votes or (1,) * many, tuple(sorted(links)), need)


def all_nets(many):
    """A net for every choice of links between so many hosts."""
    pairs = list(combinations(range(many), 2))
    for choice in range(2 ** len(pairs)):
        yield linked_net(many, [pair for i, pair in enumerate(pairs) if choice >> i & 1])


def alike(one, two):
    """Whether two things are equal and of the same kinds throughout, so that 1, 1.0 and True are unlike."""
    if type(one) is not type(two):
        return False
    if isinstance(one, (tuple, list)):
        return len(one) == len(two) and all(a is b or alike(a, b) for a, b in zip(one, two))
    return one is two or one == two


def plain(thing):
    """Whether a thing is built of plain ints, texts, bools, None and tuples of these."""
    if type(thing) is tuple:
        return all(plain(part) for part in thing)
    return thing is None or type(thing) in (int, str, bool)


def frozen(thing):
    """A copy of a thing in which lists are copied, too."""
    if isinstance(thing, list):
        return [frozen(part) for part in thing]
    if isinstance(thing, tuple) and any(isinstance(part, (list, tuple)) for part in thing):
        return tuple(frozen(part) for part in thing)
    return thing


class Case(unittest.TestCase):
    """Tests that compare strictly what is told and what is refused."""

    def tells(self, wanted, function, *args, **named):
        """The call returns just what is wanted, of the wanted kinds."""
        told = function(*args, **named)
        self.assertTrue(alike(told, wanted), f"{told!r} instead of {wanted!r}")
        self.assertTrue(plain(told))

    def refuses(self, error, what, function, *args, **named):
        """The call raises just this error, which keeps this thing as it was handed in."""
        with self.assertRaises(Refused) as caught:
            function(*args, **named)
        self.assertIs(type(caught.exception), error)
        kept = caught.exception.what
        self.assertTrue(kept is what or alike(kept, what), f"{str(kept)[:80]} instead of {str(what)[:80]}")


def slow_hangs(net, hosts):
    """Whether hosts hang together, by the words of [6]."""
    hosts = set(hosts)
    if not hosts:
        return False
    reached = {min(hosts)}
    while True:
        further = {y for a, b in net[1] for x, y in ((a, b), (b, a)) if x in reached and y in hosts} - reached
        if not further:
            return reached == hosts
        reached |= further


def slow_lots(many):
    """All lots of so many hosts but (), in order."""
    return [lot for size in range(1, many + 1) for lot in combinations(range(many), size)]


def slow_pieces(net, lot):
    """The greatest lots within the lot that hang, by least host."""
    hanging = [one for size in range(1, len(lot) + 1) for one in combinations(lot, size) if slow_hangs(net, one)]
    return tuple(sorted(one for one in hanging if not any(set(one) < set(two) for two in hanging)))


def slow_blocks(net):
    """The blocks by the words of [10]: lots that hang, also without any one host, and that are greatest."""
    many = len(net[0])
    hanging = {()} | {lot for lot in slow_lots(many) if slow_hangs(net, lot)}
    steady = []
    for lot in slow_lots(many):
        if lot in hanging and all(tuple(y for y in lot if y != x) in hanging for x in lot):
            steady.append(lot)
    return tuple(lot for lot in steady if not any(set(lot) < set(other) for other in steady))
