"""What a host got, [56], letters, [57], and what they leave on a disk, [58]."""

import unittest
from random import Random

from fifthhost.cells import cell_right
from fifthhost.cluster import Cluster
from fifthhost.disks import made_letters, replay
from fifthhost.errors import BadLetters, NoLetter, TooMany
from tests.clustersets import DEEDS, FOUR, NETS, Twins, slow_replay, some_deed
from tests.common import BROAD, DEEP, LARGE, NAN, NO_NUMBERS, NO_TUPLES, Case, full_net, plain
from tests.lettersets import CELL, KNOWS, N, RIGHT, STORY, W, some_letter, with_part
from tests.rulesets import ZERO

NO_INTS = NO_NUMBERS + NO_TUPLES[5:] + (-1, -LARGE)
NO_NAMES = (True, None, 0, 1.0, "", "01", [], [0, 0], (), (0,), (0, 0, 0), (0, -1), (-1, 0), (True, 0), (0, False), (0, 1.0),
            (0, None), ("0", "0"), ((0,), 0), (NAN, 0), BROAD, DEEP)
NO_LOTS = (True, None, 0, 1.0, "", "01", [], [0, 1], (), (1, 0), (0, 0), (-1, 0), (True,), (0, 1.0), (0, None), ("0",), ((0,),),
           BROAD[::-1], DEEP)
NO_ROWS = (True, None, 0, 1.0, "", [], (), (1, 5, 8), W + (0,), list(W), (0, 5, 8, ()), (1, 1000, 8, ()), (1, -1, 8, ()),
           (1, 5, True, ()), (1, 5, 8.0, ()), (1, 5, 8, []), (1, 5, 8, None), (1, 5, 8, KNOWS[::-1]), (True, 5, 8, ()), BROAD, DEEP)
NO_KNOWS = (True, None, 0, 1.0, "", [], [KNOWS], KNOWS[::-1], KNOWS[:1] * 2, ((0, 0, 0, 1),), ((0, 0, 1, 0),), ((0, 0, 1),),
            ((-1, 0, 1, 1),), ((0, 0, 1, True),), (list(KNOWS[0]),), KNOWS[0], BROAD, DEEP)
NO_PAIRS = NO_NAMES + ((0, 1), (1, 0), (LARGE, 0), (False, False), (False, 0), (0.0, 0))
NO_CELLS = (True, None, 0, "", [], (), CELL[:4], CELL + (0,), list(CELL), CELL[:2] + ((2, 0),) + CELL[3:], (-1,) + CELL[1:],
            CELL[:3] + ((None,), 1), CELL[:4] + (True,), BROAD, DEEP)


def wrong_letters():
    """Letters that are wrong by one thing each."""
    for letter in RIGHT:
        yield from (letter[:-1], letter + (0,), letter + ((),), list(letter), (letter,), letter[1:])
        for word in ("", "PROMISE", "hears", "copy ", "none", b"hear", None, 0, True, 1.0, (), ("hear",), ["hear"], DEEP):
            yield (word,) + letter[1:]
    yield from NO_NUMBERS + NO_TUPLES + (RIGHT, STORY, "hear", ("hear",), ("copy", ()), ("promise",))
    wrong = {"promise": (NO_NAMES, NO_INTS + (0,)), "take": (NO_NAMES, NO_INTS + (0,), NO_LOTS, None),
             "note": (NO_NAMES, NO_ROWS, NO_INTS), "hold": (NO_NAMES, NO_ROWS), "sure": (NO_NAMES, NO_INTS, NO_LOTS),
             "hear": (NO_KNOWS,)}
    for letter in RIGHT:
        for index, things in enumerate(wrong.get(letter[0], ())):
            for thing in things or wrong_rows():
                yield with_part(letter, index + 1, thing)
    yield from wrong_copies()


def wrong_rows():
    """What is no tuple of rows."""
    yield from (True, None, 0, "", [], [W], W, BROAD, DEEP)
    for row in NO_ROWS:
        yield from ((row,), (W, row), (row, W))


def wrong_copies():
    """Copies whose entries are wrong by one thing each, or whose names do not rise."""
    entry = (N, CELL, (1, 1))
    for things in (NO_NAMES, NO_CELLS, NO_PAIRS):
        index = (NO_NAMES, NO_CELLS, NO_PAIRS).index(things)
        for thing in things:
            yield from (("copy", (with_part(entry, index, thing),)), ("copy", (((0, 0), CELL, (1, 1)), with_part(entry, index, thing))))
    for entries in ((entry, entry), (entry, ((0, 0), CELL, (1, 1))), (((1, 0), CELL, (1, 1)), entry), entry, list((entry,)),
                    (entry[:2],), (entry + (0,),), (list(entry),), (entry, None), None, 0, "", DEEP, BROAD):
        yield ("copy", entries)


class Letters(Case):

    def test_right_letters(self):
        for letters in [(), RIGHT, STORY] + [(letter,) for letter in RIGHT]:
            self.assertIs(made_letters(letters), letters)

    def test_each_part_wrong_by_itself(self):
        for index, letter in enumerate(wrong_letters()):
            self.refuses(BadLetters, 0, made_letters, (letter,))
            if index % 7 == 0:
                self.refuses(BadLetters, 3, made_letters, STORY[:3] + (letter, letter))
                self.refuses(BadLetters, 0, replay, (letter,))

    def test_examples_of_wrong_letters(self):
        self.refuses(BadLetters, 0, made_letters, (("promise", N, 0),))
        self.refuses(BadLetters, 0, made_letters, (("sure", N, 1, ()),))

    def test_what_is_no_tuple(self):
        for thing in NO_TUPLES + (None, 5, 1.0, "hear", [], [STORY], [("hear", ())]):
            self.refuses(BadLetters, -1, made_letters, thing)
            self.refuses(BadLetters, -1, replay, thing)

    def test_how_many(self):
        letters = (("hear", ()),) * 2000
        self.assertIs(made_letters(letters), letters)
        self.tells(((), ()), replay, letters)
        for more in (letters + (("hear", ()),), letters + (None,), (None,) * 2001):
            self.refuses(TooMany, 2001, made_letters, more)
            self.refuses(TooMany, 2001, replay, more)
        self.refuses(TooMany, 299000, made_letters, BROAD)
        self.refuses(BadLetters, 1999, replay, letters[1:] + (None,))

    def test_by_name(self):
        self.assertIs(made_letters(thing=STORY), STORY)
        self.tells((((N, (1, 1, (2, 3), (W,), 1)),), ((0, 1, 1, 1),)), replay, letters=STORY)


class Replay(Case):

    def test_examples(self):
        self.tells((((N, (1, 1, (2, 3), (W,), 1)),), ((0, 1, 1, 1),)), replay, STORY)
        self.tells((((N, (1, 1, (), (), 0)),), ((0, 1, 1, 1),)), replay, STORY[:4])
        self.tells(((), ((0, 0, 2, 3),)), replay,
                   (("hear", ((0, 0, 2, 3), (0, 1, 1, 1))), ("copy", ((N, (0, 0, (), (), 0), (0, 0)),))))
        self.tells(((), ((0, 0, 1, 4), (0, 1, 2, 7))), replay,
                   (("note", N, (2, 5, 9, ((0, 0, 1, 4),)), 6), ("note", N, (1, 5, 7, ()), 8)))

    def test_each_kind_by_itself(self):
        row = (3, 5, 8, ((0, 0, 1, 2), (0, 1, 2, 9)))
        for letter, cells, heard in (
                (("promise", N, 7), ((N, (7, 0, (), (), 0)),), ()),
                (("take", N, 7, (1, 2), (W, row)), ((N, (0, 7, (1, 2), (W, row), 0)),), ((0, 0, 1, 2), (0, 1, 3, 2))),
                (("note", N, row, 4), (), ((0, 0, 1, 2), (0, 1, 3, 5))),
                (("hold", N, row), ((N, (0, 0, (), (row,), 0)),), ()),
                (("sure", N, 4, (5,)), ((N, (0, 0, (5,), (), 4)),), ()),
                (("hear", KNOWS), (), KNOWS),
                (("hear", ()), (), ()),
                (("copy", ((N, CELL, (4, 5)),)), ((N, CELL),), ((0, 1, 4, 5),)),
                (("copy", ((N, CELL, (0, 0)), ((1, 0), (0, 0, (), (), 0), (1, 2)))), ((N, CELL),), ((1, 0, 1, 2),))):
            self.tells((cells, heard), replay, (letter,))

    def test_one_letter_behind_another(self):
        # What was promised, taken or sure may become less; what is heard never does, but by a copy.
        self.tells((((N, (1, 0, (), (), 0)),), ()), replay, (("promise", N, 5), ("promise", N, 1)))
        self.tells((((N, (0, 1, (3,), (), 0)),), ((0, 1, 9, 1),)), replay,
                   (("take", N, 9, (2,), ((9, 0, 0, ()),)), ("take", N, 1, (3,), ())))
        self.tells((((N, (0, 0, (1,), (), 0)),), ()), replay, (("sure", N, 9, (0,)), ("sure", N, 0, (1,))))
        self.tells((((N, (0, 0, (), (), 3)),), ((0, 1, 1, 1),)), replay, (("sure", N, 3, (0,)), ("note", N, W, 0)))
        self.tells(((), ()), replay, (("hear", KNOWS), ("copy", (((0, 0), (0, 0, (), (), 0), (0, 0)), (N, (0, 0, (), (), 0), (0, 0))))))
        self.tells((((N, (0, 0, (), (W, W), 0)),), ()), replay, (("hold", N, W), ("hold", N, W)))
        self.tells(((), ((0, 0, 2, 3), (0, 1, 1, 1))), replay, (("hear", KNOWS), ("hear", ((0, 0, 2, 2), (0, 1, 1, 1)))))
        self.tells(((), ((0, 0, 3, 1), (0, 1, 1, 1))), replay, (("hear", KNOWS), ("hear", ((0, 0, 3, 1),))))

    def test_names_rise_in_what_is_told(self):
        names = ((2, 0), (0, 7), (1, 3), (0, 0), (1, 0))
        letters = tuple(("note", name, W, 0) for name in names) + tuple(("promise", name, 1) for name in names[::-1])
        cells, heard = replay(letters)
        self.assertEqual([name for name, _ in cells], sorted(names))
        self.assertEqual([know[:2] for know in heard], sorted(names))

    def test_drawn_letters_beside_the_words_of_the_document(self):
        for seed in range(200):
            chance = Random(seed)
            letters = tuple(some_letter(chance) for _ in range(chance.randint(0, 30)))
            self.assertIs(made_letters(letters), letters)
            self.tells(slow_replay(letters), replay, letters)
            self.assertTrue(all(cell_right(cell) for _, cell in replay(letters)[0]))


class Disks(Case):

    def lies(self, c):
        """What replay tells of the letters of each host is what lies on its disk."""
        for x in range(len(c.net[0])):
            if c.state(x)[1] == "written":
                cells, heard = replay(c.letters(x))
                self.tells(heard, c.heard, x)
                for name, cell in cells:
                    self.tells(cell, c.cell, x, name)
                told = {name for name, _ in cells}
                for name in [(e, l) for e in range(4) for l in range(4)]:
                    if name not in told:
                        self.tells((0, 0, (), (), 0), c.cell, x, name)
                self.assertTrue(plain(c.letters(x)))

    def test_letters_tell_what_lies_on_the_disk(self):
        for seed in range(40):
            chance = Random(seed)
            twins = Twins(self, chance.choice(NETS))
            for _ in range(60):
                twins.ask(*some_deed(chance, twins.one, DEEDS + ["forget"] * 4))
                self.lies(twins.one)
            twins.same_disks()
            twins.same()

    def test_forget_of_each_kind(self):
        twins = Twins(self, FOUR)
        c = twins.one
        for word, *args in (("begin", 0), ("put", 0, 5, 7), ("change", 0, (1, 1, 1, 1), 3), ("begin", 1), ("put", 1, 5, 8, 4),
                            ("cut", 0, 3), ("cut", 1, 3), ("cut", 2, 3), ("begin", 1), ("put", 1, 5, 9), ("mend", 2, 3),
                            ("share", 2), ("down", 3)):
            twins.do(word, *args)
        words = ["promise", "take", "sure", "note", "hold", "sure", "hear", "promise", "take", "sure", "note", "copy"]
        self.assertEqual([letter[0] for letter in c.letters(3)], words)
        editions = (c.edition(3), c.book(3, 0), c.book(3, 1))
        while words:
            self.tells(words.pop(), c.forget, 3)
            twins.two.forget(3)
            self.lies(c)
            twins.same_disks()
            self.assertEqual(editions, (c.edition(3), c.book(3, 0), c.book(3, 1)))
        for method in (c.forget, twins.two.forget):
            self.refuses(NoLetter, 3, method, 3)
        self.tells(((), ()), lambda: (c.heard(3), c.letters(3)))
        self.tells(("down", "written"), c.state, 3)
        # It comes up with nothing but its editions, and goes on with the others.
        for word, *args in (("up", 3), ("mend", 0, 3), ("begin", 3), ("put", 3, 5, 0)):
            twins.do(word, *args)
        self.lies(c)
        twins.same()

    def test_forget_beyond_the_letters_that_made_letters_takes(self):
        c = Cluster(full_net(2, 2), ZERO)
        for _ in range(700):
            c.begin(0)
        self.assertEqual(len(c.letters(0)), 2100)
        self.refuses(TooMany, 2100, replay, c.letters(0))
        c.down(0)
        self.tells("sure", c.forget, 0)
        self.tells("take", c.forget, 0)
        self.tells((700, 699, (0, 1), (), 0), c.cell, 0, (0, 0))
        self.assertEqual(len(c.letters(0)), 2098)

    def test_letters_begin_anew_with_a_blank_disk(self):
        twins = Twins(self, FOUR)
        c = twins.one
        for word, *args in (("begin", 0), ("put", 0, 5, 7), ("down", 3), ("wipe", 3), ("up", 3), ("restore", 3, 0)):
            twins.do(word, *args)
        self.tells((("copy", (((0, 0), (1, 1, (), ((1, 5, 7, ()),), 1), (1, 1)),)),), c.letters, 3)
        self.assertEqual(len(c.letters(0)), 6)
        twins.do("down", 3)
        self.tells("copy", c.forget, 3)
        self.tells(((), ()), lambda: (c.letters(3), c.heard(3)))


if __name__ == "__main__":
    unittest.main()
