"""Houses, [38]."""

import unittest

from fifthhost.errors import BadHouse, TooMany
from fifthhost.houses import made_house
from tests.common import BROAD, DEEP, EMPTY, FULL_40, LARGE, NAN, NO_NUMBERS, NO_TUPLES, R, Case
from tests.housesets import H, LEAST, P

NO_INTS = NO_NUMBERS + NO_TUPLES[5:] + (-1, -LARGE, NAN, BROAD, DEEP)
WRONG = NO_NUMBERS + NO_TUPLES + (NAN, BROAD, DEEP, {}, b"")
# Right tests and acts in a net of three hosts, with what they are asked with at its bounds.
TESTS = (("always",), ("shrunk",)) + tuple(
    (word, asked) for word, bounds in (("has", (0, 2)), ("least", (0, 2)), ("many", (0, 3, 4, LARGE)),
                                       ("votes", (0, 1, LARGE)), ("last", (0, 999))) for asked in bounds)
ACTS = (("log", 0), ("log", 999), ("last",), ("first",))


def wrong_rows():
    """What are no rows of a house in a net of three hosts, wrong by one thing each."""
    yield from WRONG
    for word, beyond in (("has", (3, LARGE)), ("least", (3, LARGE)), ("many", ()), ("votes", ()), ("last", (1000, LARGE))):
        for asked in NO_INTS + beyond:
            yield ((word, asked), ("first",))
    for log in NO_INTS + (1000, LARGE):
        yield (("always",), ("log", log))
    for test in TESTS:
        for wrong in (test + (0,), list(test), (test,), test[0], (test[0].upper(),) + test[1:], (test[0] + " ",) + test[1:]):
            yield (wrong, ("first",))
        if len(test) == 2:
            yield (test[:1], ("first",))
        yield from ((test,), (test, ("first",), ("first",)), [test, ("first",)], (("first",), test))
    for act in ACTS:
        for wrong in (act + (0,), list(act), (act,), act[0], (act[0].upper(),) + act[1:]):
            yield (("always",), wrong)
    yield (("always",), ("log",))
    for word in ("", "log", "first", "Always", None, 0, True, ("always",), ["always"], BROAD):
        yield ((word,), ("first",))
        yield ((word, 0), ("first",))
    for word in ("", "always", "Last", "many", None, 0, True, ("last",), ["last"], BROAD):
        yield (("always",), (word,))
        yield (("always",), (word, 0))
    for thing in WRONG:
        yield from ((thing, ("first",)), (("always",), thing))


class Houses(Case):

    def right(self, net, house):
        """The thing is a house, and handed back as it was."""
        self.assertIs(made_house(net, house), house)

    def test_examples(self):
        self.right(P, ((("least", 2), ("first",)),))
        self.refuses(BadHouse, 1, made_house, P, ((("always",), ("last",)), (("least", 3), ("first",))))
        self.refuses(BadHouse, 0, made_house, P, ((("always",), ("log", 1000)),))
        self.right(P, ())
        self.right(R, H)
        self.right(R, LEAST)

    def test_each_test_and_act_at_its_bounds(self):
        for test in TESTS:
            for act in ACTS:
                self.right(P, ((test, act),))
        for x in (0, 39):
            self.right(FULL_40, ((("has", x), ("first",)), (("least", x), ("last",))))
        self.refuses(BadHouse, 0, made_house, FULL_40, ((("has", 40), ("first",)),))
        for word in ("has", "least"):
            self.refuses(BadHouse, 0, made_house, EMPTY, (((word, 0), ("first",)),))
        self.right(EMPTY, ((("many", 0), ("first",)), (("last", 999), ("last",))))

    def test_each_wrong_row_by_its_index(self):
        rows = tuple((test, ACTS[index % 4]) for index, test in enumerate(TESTS))
        for row in wrong_rows():
            self.refuses(BadHouse, 0, made_house, P, (row,))
            self.refuses(BadHouse, 2, made_house, P, rows[:2] + (row,) + rows[2:])
            self.refuses(BadHouse, 1, made_house, P, (rows[0], row, row))
        for index in range(40):
            house = (rows * 4)[:index] + (None,) + (rows * 4)[index:39]
            self.assertEqual(len(house), 40)
            self.refuses(BadHouse, index, made_house, P, house)

    def test_40_and_41_rows(self):
        row = (("always",), ("first",))
        self.right(P, (row,) * 40)
        for many in (41, 42, 100, 299000):
            self.refuses(TooMany, many, made_house, P, (row,) * many)
            self.refuses(TooMany, many, made_house, P, (None,) * many)
        self.refuses(TooMany, len(BROAD), made_house, P, BROAD)

    def test_what_is_no_tuple(self):
        for thing in WRONG:
            if type(thing) is not tuple:
                self.refuses(BadHouse, -1, made_house, P, thing)
        self.refuses(BadHouse, -1, made_house, P, [(("always",), ("first",))])


if __name__ == "__main__":
    unittest.main()
