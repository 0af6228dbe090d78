"""What the tests of rules share: rules of all kinds, wrong parts, and what a rule means, by the document's words."""

from itertools import combinations

from tests.common import BROAD, DEEP, LARGE, NAN, NO_NUMBERS, NO_TUPLES, slow_lots

# The rules G and S of [29] and [30], of the nets R and TRIANGLES.
RING_RULE = ("ring", (0, 1, 2, 3, 4), (0, 1, 2, 3, 4), 3, 0)
SEAM_RULE = ("seam", 2, (3, 4), 2, 0, ("one", 0), ("one", 1))
ZERO = ("one", 0)

NO_LOGS = NO_NUMBERS + NO_TUPLES[5:] + (-1, 1000, LARGE, -LARGE)
NO_HOSTS = NO_NUMBERS + NO_TUPLES[5:] + (-1, 5, LARGE, -LARGE)
NO_COUNTS = NO_NUMBERS + NO_TUPLES[5:] + (-1, -LARGE)
# What is no lot of one host at least, in a net of five.
NO_LOTS = tuple(thing for thing in NO_NUMBERS if thing != (0,)) + NO_TUPLES + ((0, 0), (1, 0), (0, 5), (-1, 0), (0, True), (False, 1), (0.0,), (0, 1.0),
                                    [0, 1], "01", ((0,),), (0, None), (0, NAN), (0, LARGE), BROAD, DEEP)

# Right parts of all kinds, in a net of five hosts.
RIGHT = (
    ("one", 0), ("one", 999), ("has", 0, 0, ZERO), ("has", 4, 999, ZERO),
    ("seam", 0, (1,), 0, 0, ZERO, ZERO), ("seam", 4, (0, 1, 2, 3), LARGE, LARGE, ZERO, ZERO),
    ("seam", 2, (0, 4), 5, 0, ZERO, ZERO), RING_RULE, ("ring", (4, 0, 2), (2,), 1, 999),
    ("ring", (3, 1, 0, 4), (0, 3), 1, 7), ("table", ()), ("table", (((4,), 999),)),
    ("table", tuple((lot, index) for index, lot in enumerate(slow_lots(5)))),
)


def wrong_parts():
    """Parts of a wrong form in a net of five hosts, wrong by one thing each."""
    for part in RIGHT:
        yield from (part[:-1], part + (0,), part + ((),), list(part), part[:1], (part,))
        for word in ("", "ONE", "two", "ones", b"one", "one ", None, 0, 1.0, True, (), ("one",), ["one"], BROAD, DEEP):
            yield (word,) + part[1:]
    yield from NO_NUMBERS + NO_TUPLES + (RIGHT, ("one",), ("table",), ("has",), "table", (("one", 0),))
    for log in NO_LOGS:
        yield from (("one", log), ("has", 1, log, ZERO), ("ring", (0, 1, 2), (0,), 1, log),
                    ("table", (((0,), log),)), ("table", (((0,), 0), ((0, 1), log))))
    for x in NO_HOSTS:
        yield from (("has", x, 0, ZERO), ("seam", x, (1, 2), 0, 0, ZERO, ZERO),
                    ("ring", (0, 1, x), (0,), 1, 0), ("ring", (x, 0, 1, 2), (0,), 1, 0))
    for lot in NO_LOTS:
        yield from (("seam", 4, lot, 0, 0, ZERO, ZERO), ("table", ((lot, 0),)), ("table", (((0,), 0), (lot, 0))))
    for number in NO_COUNTS:
        yield from (("seam", 4, (0,), number, 0, ZERO, ZERO), ("seam", 4, (0,), 0, number, ZERO, ZERO),
                    ("ring", (0, 1, 2), (0,), number, 0))
    yield from wrong_seams_and_rings()
    yield from wrong_tables()


def wrong_seams_and_rings():
    """Seams with their host at the side, and rings with wrong hosts, starts or counts."""
    yield from (("seam", 1, (1,), 0, 0, ZERO, ZERO), ("seam", 1, (0, 1, 2), 0, 0, ZERO, ZERO))
    for hosts in NO_NUMBERS + NO_TUPLES + ((), (0,), (0, 1), (0, 1, 0), (0, 1, 2, 3, 4, 0), (1, 1, 2), [0, 1, 2], "012",
                                           (0, 1, 2, 3, 4, 5), ((0, 1, 2),), BROAD, DEEP):
        yield ("ring", hosts, (0,), 1, 0)
    for starts in NO_LOTS + ((3,), (0, 3), (0, 1, 2, 3)):
        # For the three hosts of this ring 0, 1 and 2 are indices.
        yield ("ring", (2, 3, 4), starts, 1, 0)
    for starts, many in (((0,), 0), ((0,), 2), ((0, 2), 3), ((0, 1, 2), 4), ((0, 1, 2), LARGE)):
        yield ("ring", (2, 3, 4), starts, many, 0)


def wrong_tables():
    """Tables with rows that are no rows, or do not rise."""
    for rows in NO_NUMBERS + NO_TUPLES + ([((0,), 0)], (((0,),),), (((0,), 0, 0),), ([(0,), 0],), (((0,), 0), ()),
                                          ((0, (0,)),), (((0,), 0), None), BROAD, (BROAD,), ((0,), 0)):
        if rows != ():
            yield ("table", rows)
    for one, two in combinations(((0,), (4,), (0, 1), (0, 4), (1, 2), (0, 1, 2), (0, 1, 2, 3, 4)), 2):
        yield ("table", ((two, 0), (one, 0)))
        yield ("table", ((one, 0), (one, 0)))
        yield ("table", ((one, 0), (two, 0), (two, 1)))
    yield ("table", (((0, 1), 0), ((2,), 0)))


def parts_of(rule, path=()):
    """All parts of a rule with their paths, each ahead of those within it, these from the left."""
    yield path, rule
    for index in {"has": (3,), "seam": (5, 6)}.get(rule[0], ()):
        yield from parts_of(rule[index], path + (index,))


def replaced(rule, path, part):
    """The rule, but at this path there is another part."""
    if path == ():
        return part
    index = path[0]
    return rule[:index] + (replaced(rule[index], path[1:], part),) + rule[index + 1:]


def rule_with(many):
    """A right rule of just so many parts, none of which has a long path."""
    if many == 1:
        return ZERO
    if many == 2:
        return ("has", 0, 0, ZERO)
    return ("seam", 0, (1,), 0, 0, rule_with((many - 1) // 2), rule_with(many // 2))


def nested_has(many):
    """The rule ("one", 0) within so many has."""
    rule = ZERO
    for _ in range(many):
        rule = ("has", 0, 0, rule)
    return rule


def slow_log(votes, rule, lot):
    """What a rule tells a lot, by the words of [29] and [30]; None for an unruled one. votes is a dict, lot a set."""
    word, *rest = rule
    if word == "one":
        return rest[0]
    if word == "has":
        return rest[1] if rest[0] in lot else slow_log(votes, rest[2], lot)
    if word == "table":
        told = [l for row, l in rest[0] if set(row) == lot]
        return told[0] if told else None
    if word == "ring":
        return slow_ring(*rest, lot)
    v, side, z, g, first, second = rest
    outside = lot - set(side)
    if lot & set(side) and v not in lot:
        return slow_log({**votes, v: z - 1 if z else 0}, first, lot)
    if lot & set(side) and v in lot and sum(votes[x] for x in outside) < z:
        return slow_log({**votes, v: z - 1}, first, (lot & set(side)) | {v})
    return slow_log({**votes, v: votes[v] + g}, second, outside)


def slow_ring(hosts, starts, many, l, lot):
    """What a ring tells a lot: every stretch is tried."""
    for begin in range(len(hosts)):
        for size in range(1, len(hosts) + 1):
            stretch = {hosts[(begin + step) % len(hosts)] for step in range(size)}
            if stretch == lot:
                passed = [place for place, start in enumerate(starts) if start <= begin]
                return l + max(passed, default=len(starts) - 1) * many // len(starts)
    return None


def some_rule(chance, many, depth):
    """A rule of a net of so many hosts, two or more, which need not be right for any net."""
    word = chance.choice(("one", "has", "seam", "ring", "table") if depth == 0 else ("has", "seam", "seam", "seam"))
    log = chance.choice((0, 1, 2, 999))
    if word == "has":
        return (word, chance.randrange(many), log, some_rule(chance, many, max(0, depth - 1)))
    if word == "seam":
        return some_seam(chance, many, max(0, depth - 1))
    if word == "ring" and many > 2:
        hosts = tuple(chance.sample(range(many), chance.randint(3, many)))
        starts = tuple(sorted(chance.sample(range(len(hosts)), chance.randint(1, len(hosts)))))
        return (word, hosts, starts, chance.randint(1, len(starts)), log)
    if word == "table":
        lots = slow_lots(many)
        rows = sorted(chance.sample(range(len(lots)), chance.randint(0, len(lots))))
        return (word, tuple((lots[row], chance.randrange(4)) for row in rows))
    return ("one", log)


def some_seam(chance, many, depth):
    """A seam, whether it is one of a net or not, with rules within it."""
    v = chance.randrange(many)
    others = [x for x in range(many) if x != v]
    side = tuple(sorted(chance.sample(others, chance.randint(1, len(others)))))
    z, g = (chance.choice((0, 0, 1, 2, 3, 5, LARGE)) for _ in range(2))
    return ("seam", v, side, z, g, some_rule(chance, many, depth), some_rule(chance, many, depth))
