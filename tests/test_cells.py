"""The forms of knows, rows and cells, [46]."""

import unittest

from fifthhost.cells import cell_right, knows_right, row_right
from tests.common import BROAD, DEEP, LARGE, NAN, NO_NUMBERS, NO_TUPLES, Case
from tests.lettersets import with_part

KNOWS = ((0, 0, 1, 2), (0, 1, 1, 1))
ROW = (1, 5, -7, KNOWS)
CELL = (3, 2, (0, 2), (ROW, (2, 0, 0, ())), 1)
JUDGES = (knows_right, row_right, cell_right)
NO_INTS = NO_NUMBERS + NO_TUPLES[5:] + (NAN, BROAD, DEEP, {}, set(), b"")
# Neither knows, rows of cells, rows nor cells, and no openers, as () and rising numbers are.
WRONG = NO_TUPLES + tuple(thing for thing in NO_INTS if thing not in ((), (0,), BROAD)) + ((1, 0), ((0,),), (BROAD,))


class Cells(Case):

    def test_examples(self):
        self.tells(True, row_right, (1, 5, -7, ()))
        self.tells(False, row_right, (0, 5, 7, ()))
        self.tells(False, row_right, (1, 1000, 7, ()))
        self.tells(True, knows_right, ((0, 0, 1, 2), (0, 1, 1, 1)))
        self.tells(False, knows_right, ((0, 0, 1, 2), (0, 0, 2, 1)))

    def test_right_knows(self):
        for knows in ((), KNOWS, KNOWS[:1], ((0, 0, 1, 1),), ((LARGE, LARGE, LARGE, LARGE),), ((0, 5, 1, 1), (1, 0, 1, 1)),
                      ((0, 0, 9, 9), (0, 1, 1, 1)), tuple((e, l, 1, 1) for e in range(100) for l in range(100))):
            self.tells(True, knows_right, knows)

    def test_right_rows(self):
        for row in (ROW, (1, 0, 0, ()), (1, 999, 0, ()), (LARGE, 5, LARGE, KNOWS), (1, 5, -LARGE, ())):
            self.tells(True, row_right, row)

    def test_right_cells(self):
        for cell in ((0, 0, (), (), 0), CELL, (LARGE, LARGE, (LARGE,), (ROW,), LARGE), (0, 5, (), (), 9), (5, 0, (7,), (), 0),
                     (0, 0, (0, 1, LARGE), (ROW,) * 1000, 0), (0, 0, (39, 40, 41), (), 0)):
            self.tells(True, cell_right, cell)

    def test_one_part_of_another_kind_at_any_place(self):
        for judge, thing, least in ((row_right, ROW, (1, 0, None, None)), (cell_right, CELL, (0, 0, None, None, 0))):
            for index, low in enumerate(least):
                for part in NO_INTS if type(thing[index]) is int else WRONG:
                    self.tells(False, judge, with_part(thing, index, part))
                if low is not None:
                    self.tells(True, judge, with_part(thing, index, low))
                    self.tells(False, judge, with_part(thing, index, low - 1))
                    self.tells(False, judge, with_part(thing, index, -LARGE))
        self.tells(False, row_right, with_part(ROW, 1, 1000))
        self.tells(False, row_right, with_part(ROW, 1, LARGE))

    def test_knows_with_one_part_wrong(self):
        for at, know in enumerate(KNOWS):
            for index, low in enumerate((0, 0, 1, 1)):
                for part in NO_INTS + (low - 1, -LARGE):
                    self.tells(False, knows_right, with_part(KNOWS, at, with_part(know, index, part)))
            for part in WRONG + ((), know[:3], know + (1,), list(know), (know,), know[:2]):
                self.tells(False, knows_right, with_part(KNOWS, at, part))

    def test_names_that_do_not_rise(self):
        for knows in (KNOWS[::-1], KNOWS[:1] * 2, ((0, 1, 1, 1), (0, 0, 9, 9)), ((1, 0, 1, 1), (0, 5, 2, 2)),
                      ((0, 0, 1, 1), (0, 0, 1, 2)), KNOWS + KNOWS[:1], ((0, 0, 1, 1), (0, 2, 1, 1), (0, 1, 1, 1))):
            self.tells(False, knows_right, knows)
            self.tells(False, row_right, (1, 5, 7, knows))
            self.tells(False, cell_right, (0, 0, (), ((1, 5, 7, knows),), 0))

    def test_openers(self):
        for opener in ((1, 0), (0, 0), (-1,), (0, True), (False,), (0, 1.0), (0, None), ((0,),), [0], "0", (0, "1"), (0, NAN),
                       (1, 2, 2), BROAD[::-1], DEEP):
            self.tells(False, cell_right, with_part(CELL, 2, opener))

    def test_rows_of_cells(self):
        for row in WRONG + ((), (0, 5, 7, ()), (1, 1000, 7, ()), (1, 5, True, ()), (1, 5, 7.0, ()), (1, 5, 7, []), ROW[:3],
                            ROW + (0,), list(ROW)):
            self.tells(False, row_right, row)
            for rows in ((row,), (ROW, row), (row, ROW)):
                self.tells(False, cell_right, with_part(CELL, 3, rows))

    def test_other_lengths_and_lists(self):
        for judge, thing in ((knows_right, KNOWS), (row_right, ROW), (cell_right, CELL)):
            self.tells(True, judge, thing)
            self.tells(False, judge, list(thing))
            self.tells(False, judge, (thing,))
            self.tells(False, judge, thing + (0,))
            if judge is not knows_right:
                self.tells(False, judge, thing[:-1])
                self.tells(False, judge, ())
        for thing in WRONG:
            for judge in JUDGES:
                self.tells(False, judge, thing)

    def test_the_same_again_by_name_with_nothing_changed(self):
        for judge, thing in ((knows_right, KNOWS), (row_right, ROW), (cell_right, CELL), (cell_right, [1, [2], (3,)])):
            ahead = repr(thing)
            self.assertIs(judge(thing=thing), judge(thing))
            self.assertEqual(repr(thing), ahead)


if __name__ == "__main__":
    unittest.main()
