"""What the tests share: nets, wrong things, strict comparison, and slow functions that follow the document's words."""

import unittest
from itertools import combinations
from random import Random

from fifthhost.errors import Refused

# The two nets r and s of the document, and the two triangles of [10].
R = ((1, 1, 1, 1, 1), ((0, 1), (0, 4), (1, 2), (2, 3), (3, 4)), 2)
S = ((3, 0, 2), ((0, 1), (1, 2)), 4)
TRIANGLES = ((1, 1, 1, 1, 1), ((0, 1), (0, 2), (1, 2), (2, 3), (2, 4), (3, 4)), 2)
# The two rings of five with a common host, the ring of six with a further host, and the ten hosts of [25].
RINGS = ((1,) * 9, ((0, 1), (0, 4), (1, 2), (2, 3), (3, 4), (4, 5), (4, 8), (5, 6), (6, 7), (7, 8)), 2)
TAILED = ((1, 1, 1, 1, 1, 0, 1), ((0, 1), (0, 5), (1, 2), (2, 3), (3, 4), (4, 5), (5, 6)), 2)
TEN = ((1, 2, 1, 2, 2, 1, 2, 1, 2, 2),
       ((0, 1), (0, 4), (1, 2), (2, 3), (2, 5), (3, 4), (5, 6), (5, 9), (6, 7), (7, 8), (8, 9)), 3)
EMPTY = ((), (), 1)
ONE = ((0,), (), 1)

LARGE = 7 ** 900
BARE_40 = ((1,) * 40, (), 3)
RING_40 = ((1,) * 40, tuple(sorted([(x, x + 1) for x in range(39)] + [(0, 39)])), 3)
FULL_40 = ((1,) * 40, tuple(combinations(range(40), 2)), 3)
LARGE_40 = (tuple(LARGE + x for x in range(40)), FULL_40[1], 40 * LARGE + 780)
BARE_41 = ((1,) * 41, (), 3)


def nested(depth):
    """A tuple with a tuple in it, and so on, as deep as told."""
    thing = ()
    for _ in range(depth - 1):
        thing = (thing,)
    return thing


DEEP = nested(80)
BROAD = tuple(range(299000))
NAN = float("nan")

# Things that are neither numbers nor tuples of just two or three right parts.
NO_NUMBERS = (True, False, None, 0.0, 1.0, 2.5, NAN, float("inf"), "", "0", "1", (), (0,), [], [1], DEEP, BROAD)
NO_TUPLES = (True, None, 0, 1, 1.0, "", "01", "0, 1", [], [0], [0, 1], [(0, 1)], [[1], [], 1])

NET_ERRORS = (
    (None, "BadNet", -1),
    (5, "BadNet", -1),
    ("net", "BadNet", -1),
    ([(1,), (), 1], "BadNet", -1),
    ((), "BadNet", -1),
    (((1,), ()), "BadNet", -1),
    (((1,), (), 1, 1), "BadNet", -1),
    (([1], (), 1), "BadVotes", -1),
    (BARE_41, "TooMany", 41),
    (((1, 1.0), (), 1), "BadVotes", 1),
    (((1, -1), (), 1), "BadVotes", 1),
    (((1, 1), [], 1), "BadLinks", -1),
    (((1, 1), ((0, 2),), 1), "BadLinks", 0),
    (((1, 1), (), 0), "BadNeed", 0),
    (((1, 1), (), True), "BadNeed", True),
)


def linked_net(many, links, votes=None, need=1):
    """A net of so many hosts with these links, one vote each unless votes are told."""
    return (votes or (1,) * many, tuple(sorted(links)), need)


def full_net(many, need=2):
    """A net of so many hosts that are all linked, with one vote each."""
    return linked_net(many, combinations(range(many), 2), need=need)


def round_net(votes, need):
    """A net of hosts in a ring, in order, with these votes."""
    many = len(votes)
    return (tuple(votes), tuple(sorted([(x, x + 1) for x in range(many - 1)] + [(0, many - 1)])), need)


def hubs_net(many, need=2, linked=False):
    """A net of one block of hubs, which are the hosts 0 and 1, linked to one another or not, with one vote each."""
    return linked_net(many, [(hub, x) for hub in (0, 1) for x in range(2, many)] + [(0, 1)] * linked, need=need)


def chained(nets):
    """The nets with one need as one, the last host of each being the first host of the next one, too."""
    votes, links = nets[0][0][:1], ()
    for net in nets:
        behind = len(votes) - 1
        votes += net[0][1:]
        links += tuple((a + behind, b + behind) for a, b in net[1])
    return (votes, tuple(sorted(links)), nets[0][2])


def some_nets(seed, rounds, sizes=(5, 6, 7)):
    """Nets of all sorts, the same ones for the same seed: some with any links, some that are mostly trees of blocks."""
    chance = Random(seed)
    for _ in range(rounds):
        many = chance.choice(sizes)
        pairs = list(combinations(range(many), 2))
        if chance.random() < 0.5:
            links = chance.sample(pairs, chance.randint(0, len(pairs)))
        else:
            links = [(chance.randrange(max(0, x - 3), x), x) for x in range(1, many)]
            links += chance.sample(pairs, chance.randint(0, min(4, len(pairs))))
        top = chance.choice((1, 1, 2, 3, 5, 10))
        votes = tuple(chance.randint(0, top) for _ in range(many))
        yield (votes, tuple(sorted(set(links))), chance.randint(1, max(1, sum(votes) * 2 // 3)))


def all_nets(many):
    """A net for every choice of links between so many hosts."""
    pairs = list(combinations(range(many), 2))
    for choice in range(2 ** len(pairs)):
        yield linked_net(many, [pair for i, pair in enumerate(pairs) if choice >> i & 1])


def alike(one, two):
    """Whether two things are equal and of the same kinds throughout, so that 1, 1.0 and True are unlike."""
    if type(one) is not type(two):
        return False
    if isinstance(one, (tuple, list)):
        return len(one) == len(two) and all(a is b or alike(a, b) for a, b in zip(one, two))
    return one is two or one == two


def plain(thing):
    """Whether a thing is built of plain ints, texts, bools, None and tuples of these."""
    if type(thing) is tuple:
        return all(plain(part) for part in thing)
    return thing is None or type(thing) in (int, str, bool)


def frozen(thing):
    """A copy of a thing in which lists are copied, too."""
    if isinstance(thing, list):
        return [frozen(part) for part in thing]
    if isinstance(thing, tuple) and any(isinstance(part, (list, tuple)) for part in thing):
        return tuple(frozen(part) for part in thing)
    return thing


class Case(unittest.TestCase):
    """Tests that compare strictly what is told and what is refused."""

    def tells(self, wanted, function, *args, **named):
        """The call returns just what is wanted, of the wanted kinds."""
        told = function(*args, **named)
        self.assertTrue(alike(told, wanted), f"{told!r} instead of {wanted!r}")
        self.assertTrue(plain(told))

    def refuses(self, error, what, function, *args, **named):
        """The call raises just this error, which keeps this thing as it was handed in."""
        with self.assertRaises(Refused) as caught:
            function(*args, **named)
        self.assertIs(type(caught.exception), error)
        kept = caught.exception.what
        self.assertTrue(kept is what or alike(kept, what), f"{str(kept)[:80]} instead of {str(what)[:80]}")


def slow_hangs(net, hosts):
    """Whether hosts hang together, by the words of [6]."""
    hosts = set(hosts)
    if not hosts:
        return False
    reached = {min(hosts)}
    while True:
        further = {y for a, b in net[1] for x, y in ((a, b), (b, a)) if x in reached and y in hosts} - reached
        if not further:
            return reached == hosts
        reached |= further


def slow_lots(many):
    """All lots of so many hosts but (), in order."""
    return [lot for size in range(1, many + 1) for lot in combinations(range(many), size)]


def slow_pieces(net, lot):
    """The greatest lots within the lot that hang, by least host."""
    hanging = [one for size in range(1, len(lot) + 1) for one in combinations(lot, size) if slow_hangs(net, one)]
    return tuple(sorted(one for one in hanging if not any(set(one) < set(two) for two in hanging)))


def slow_blocks(net):
    """The blocks by the words of [10]: lots that hang, also without any one host, and that are greatest."""
    many = len(net[0])
    hanging = {()} | {lot for lot in slow_lots(many) if slow_hangs(net, lot)}
    steady = []
    for lot in slow_lots(many):
        if lot in hanging and all(tuple(y for y in lot if y != x) in hanging for x in lot):
            steady.append(lot)
    return tuple(lot for lot in steady if not any(set(lot) < set(other) for other in steady))


def slow_working(net):
    """All working lots of the net, by the words of [6]."""
    return [lot for lot in slow_lots(len(net[0])) if sum(net[0][x] for x in lot) >= net[2] and slow_hangs(net, lot)]


def slow_least(lots):
    """Those of the lots within which no other one of them lies."""
    return [lot for lot in lots if not any(set(other) < set(lot) for other in lots)]


def slow_once(lots, met=frozenset()):
    """How many of the lots can be two by two apart, by trying all choices."""
    best = 0
    for index, lot in enumerate(lots):
        if not met & set(lot):
            best = max(best, 1 + slow_once(lots[index + 1:], met | set(lot)))
    return best


def slow_fewest(many, pairs):
    """The least number of hues, by trying all of them point by point."""
    ahead = [[a for a, b in pairs if b == point] for point in range(many)]

    def right(hues, k):
        """Whether the points behind those that have a hue can get hues below k, too."""
        if len(hues) == many:
            return True
        barred = {hues[a] for a in ahead[len(hues)]}
        # A hue that no point has is like each other one, so just one such is tried.
        return any(right(hues + [hue], k) for hue in range(min(k, max(hues, default=-1) + 2)) if hue not in barred)

    k = 0
    while not right([], k):
        k += 1
    return k


def apart_pairs(lots):
    """The pairs of indices of lots that are apart."""
    return tuple((i, j) for i, j in combinations(range(len(lots)), 2) if not set(lots[i]) & set(lots[j]))


def slow_logs(lots):
    """The least number of logs for the lots, so that two that are apart get unlike ones."""
    return slow_fewest(len(lots), apart_pairs(lots))
