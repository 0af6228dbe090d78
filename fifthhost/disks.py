"""Letters: what one host gets and lays onto its disk, and what they leave there."""

from fifthhost.cells import cell_right, knows_right, name_right, row_right, rows_right
from fifthhost.errors import BadLetters, TooMany
from fifthhost.forms import number_from, rising_from_zero, tuple_of
from fifthhost.laying import Disk, knows_of

MOST_LETTERS = 2000
# For each first word a sign for each part behind it: a name, a number from 0 or from 1 on, a lot of one or more, a row
# or Rows, knows, or the entries of a copy.
LETTER_PARTS = {
    "promise": "n1",
    "take": "n1lR",
    "note": "nr0",
    "hold": "nr",
    "sure": "n0l",
    "hear": "k",
    "copy": "c",
}


def made_letters(thing):
    """The thing, if it is letters."""
    if type(thing) is not tuple:
        raise BadLetters(-1)
    if len(thing) > MOST_LETTERS:
        raise TooMany(len(thing))
    for index, letter in enumerate(thing):
        if not letter_right(letter):
            raise BadLetters(index)
    return thing


def letter_right(thing):
    """Whether the thing is a letter."""
    if type(thing) is not tuple or thing == () or type(thing[0]) is not str or thing[0] not in LETTER_PARTS:
        return False
    signs = LETTER_PARTS[thing[0]]
    return len(thing) == 1 + len(signs) and all([part_right(sign, part) for sign, part in zip(signs, thing[1:])])


def part_right(sign, part):
    """Whether a part of a letter is as its sign wants it."""
    if sign == "n":
        return name_right(part)
    if sign == "0" or sign == "1":
        return number_from(part, int(sign))
    if sign == "l":
        return rising_from_zero(part) and part != ()
    if sign == "r":
        return row_right(part)
    if sign == "R":
        return rows_right(part)
    if sign == "k":
        return knows_right(part)
    return entries_right(part)


def entries_right(thing):
    """Whether the thing is the entries of a copy: one or more, whose names rise."""
    if type(thing) is not tuple or thing == ():
        return False
    ahead = (-1, -1)
    for entry in thing:
        if not entry_right(entry) or entry[0] <= ahead:
            return False
        ahead = entry[0]
    return True


def entry_right(thing):
    """Whether the thing is a name, a cell, and a pair that is (0, 0) or has two numbers from 1 on."""
    if not tuple_of(thing, 3):
        return False
    name, cell, pair = thing
    # A pair has the form that names have, but for what is 0 in it.
    return name_right(name) and cell_right(cell) and name_right(pair) and (pair[0] == 0) == (pair[1] == 0)


def replay(letters):
    """The cells and the knows that letters leave on a disk that was blank."""
    made_letters(letters)
    # Letters tell nothing of editions.
    disk = Disk(None)
    for letter in letters:
        disk.follow(letter)
    return (disk.told_cells(), knows_of(disk.pairs))
