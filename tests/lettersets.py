"""What the tests of letters share: right letters of each kind, entries, and letters that are drawn."""

from tests.common import LARGE

N = (0, 1)
W = (1, 5, 8, ())
KNOWS = ((0, 0, 2, 3), (0, 1, 1, 1))
STORY = (("promise", N, 1), ("take", N, 1, (2, 3), ()), ("sure", N, 0, (2, 3)), ("note", N, W, 0), ("hold", N, W),
         ("sure", N, 1, (2, 3)))
CELL = (3, 2, (0, 2), (W, (2, 0, 0, KNOWS)), 1)
# A right letter of each kind, some with several rows, and with nothing in them.
RIGHT = STORY + (
    ("take", (LARGE, 0), LARGE, (0, LARGE), (W, (7, 999, -LARGE, KNOWS))), ("note", N, (2, 5, 9, KNOWS), LARGE),
    ("hold", N, (LARGE, 0, 0, ())), ("sure", N, LARGE, (0,)), ("hear", ()), ("hear", KNOWS),
    ("copy", ((N, (0, 0, (), (), 0), (0, 0)),)), ("copy", (((0, 0), CELL, (1, 1)), (N, CELL, (LARGE, 1)), ((1, 0), CELL, (0, 0)))),
)

# The entries a to e of [62] and [63].
A = ((0, 1), (0, 0), 0, 1, 5, 7, ())
B = ((2, 3), (0, 1), 0, 1, 5, 8, ())
C = ((3, 4), (0, 1), 1, 2, 5, 9, ((0, 1, 1, 1),))
D = ((4,), (0, 0), 1, 2, 5, 6, ((0, 1, 2, 2),))
E = ((4,), (0, 2), 0, 1, 5, 6, ((0, 0, 2, 2),))


def with_part(thing, index, part):
    """The tuple with another part at an index."""
    return thing[:index] + (part,) + thing[index + 1:]


def some_letter(chance):
    """A letter that is drawn, of few names."""
    def row():
        knows = tuple((e, l, chance.randint(1, 4), chance.randint(1, 4)) for e in range(2) for l in range(2) if chance.random() < 0.2)
        return (chance.randint(1, 4), chance.choice((0, 5, 999)), chance.randint(-5, 5), knows)

    def lot(least=1):
        return tuple(sorted(chance.sample(range(5), chance.randint(least, 3))))

    def rows():
        return tuple(row() for _ in range(chance.choice((0, 0, 1, 3))))

    name = (chance.randrange(2), chance.randrange(2))
    cell = (chance.randrange(3), chance.randrange(3), lot(0), rows(), chance.randrange(3))
    cell = chance.choice((cell, (0, 0, (), (), 0)))
    pair = chance.choice(((0, 0), (1, 1), (3, 2)))
    return chance.choice((("promise", name, chance.randint(1, 5)), ("take", name, chance.randint(1, 5), lot(), rows()),
                          ("note", name, row(), chance.randrange(5)), ("hold", name, row()),
                          ("sure", name, chance.randrange(5), lot()), ("hear", row()[3]), ("copy", ((name, cell, pair),))))
