"""What the tests of houses share: houses, moments, and what a house does, by the document's words."""

from tests.common import linked_net, slow_hangs

# The net p and the house h of [38] and [40], for three hosts in a row and the ring R, and the house of [41] by least hosts.
P = linked_net(3, [(0, 1), (1, 2)], need=2)
H = ((("shrunk",), ("last",)), (("many", 3), ("log", 0)), (("least", 1), ("log", 1)))
LEAST = tuple((("least", x), ("log", x)) for x in range(5))
WHOLE_R = ((0, 1, 2, 3, 4),)


def slow_given(net, house, logs, lots, lot):
    """What a house gives to a lot, of the logs and lots that the hosts remember, by the words of [39]."""
    for (word, *asked), (deed, *told) in house:
        holds = {
            "always": lambda: True,
            "has": lambda: asked[0] in lot,
            "many": lambda: len(lot) >= asked[0],
            "votes": lambda: sum(net[0][x] for x in lot) >= asked[0],
            "last": lambda: any(logs[x] == asked[0] for x in lot),
            "shrunk": lambda: len({lots[x] for x in lot}) == 1 and set(lot) <= set(lots[lot[0]]),
            "least": lambda: min(lot) == asked[0],
        }[word]()
        if holds:
            known = sorted(logs[x] for x in lot if logs[x] != -1)
            own = [logs[min(lot)]] if logs[min(lot)] != -1 else []
            return ({"log": told, "last": known, "first": own}[deed] or [0])[0]
    return 0


def slow_play(net, house, moments):
    """What a house does in moments, one behind another."""
    logs, lots = {x: -1 for x in range(len(net[0]))}, {x: () for x in range(len(net[0]))}
    played = []
    for moment in moments:
        working = [lot for lot in moment if slow_hangs(net, lot) and sum(net[0][x] for x in lot) >= net[2]]
        told = tuple((lot, slow_given(net, house, dict(logs), dict(lots), lot)) for lot in working)
        lots.update({x: lot for lot in moment for x in lot})
        logs.update({x: log for lot, log in told for x in lot})
        played.append(told)
    return tuple(played)


def slow_forked(played):
    """The first fork in what was played, by trying all pairs."""
    for index, told in enumerate(played):
        for j, (one, log) in enumerate(told):
            for two, other in told[j + 1:]:
                if log == other:
                    return (index, one, two)
    return None


def some_row(chance, many):
    """A row of a house of a net of so many hosts."""
    test = chance.choice((("always",), ("has", chance.randrange(many)), ("many", chance.randint(0, many + 1)),
                          ("votes", chance.choice((0, 1, 2, 3, 5, 8))), ("last", chance.randrange(4)), ("shrunk",),
                          ("least", chance.randrange(many))))
    return (test, chance.choice((("log", chance.randrange(4)), ("last",), ("first",))))


def some_house(chance, many, rows=8):
    """A house of a net of so many hosts."""
    return tuple(some_row(chance, many) for _ in range(chance.randint(0, rows)))


def some_moment(chance, net):
    """A moment of a net: lots that are grown from one host each, and leave each other and some hosts alone."""
    free = set(range(len(net[0])))
    lots = []
    for x in chance.sample(range(len(net[0])), len(net[0])):
        if x in free and chance.random() < 0.8:
            lot = {x}
            for _ in range(chance.choice((0, 1, 1, 2, 3, 5))):
                edge = sorted({b for pair in net[1] for a, b in (pair, pair[::-1]) if a in lot and b in free} - lot)
                if edge:
                    lot.add(chance.choice(edge))
            free -= lot
            lots.append(tuple(sorted(lot)))
    return tuple(sorted(lots))


def some_moments(chance, net, most=8):
    """Moments of a net, some of which come again."""
    told = [some_moment(chance, net) for _ in range(chance.randint(1, most))]
    return tuple(told + chance.sample(told, len(told) // 2))
