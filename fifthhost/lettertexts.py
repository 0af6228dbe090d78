"""Letters as texts: a line for each letter, as a file keeps them that may be torn."""

from fifthhost.disks import LETTER_PARTS, MOST_LETTERS, letter_right, made_letters
from fifthhost.errors import WrongWord
from fifthhost.words import Words, all_figures, check_text, figures, number_word, numbers_of, signed_word

NONE = "none"


def letters_text(letters):
    """The text of letters."""
    made_letters(letters)
    return "".join([" ".join(words_of(letter)) + "\n" for letter in letters])


def words_of(letter):
    """The words of the line of a letter."""
    words = [letter[0]]
    for sign, part in zip(LETTER_PARTS[letter[0]], letter[1:]):
        words.extend(words_of_part(sign, part))
    return words


def words_of_part(sign, part):
    """The words of a part of a letter, as its sign wants it."""
    if sign == "n":
        return words_of_numbers(part)
    if sign == "l":
        return [lot_word(part)]
    if sign == "r":
        return [row_word(part)]
    if sign == "R":
        return [rows_word(part)]
    if sign == "k":
        return [knows_word(part)]
    if sign == "c":
        return words_of_entries(part)
    return words_of_numbers((part,))


def words_of_numbers(numbers):
    """A word for each number."""
    return [figures(number) for number in numbers]


def lot_word(lot):
    """The word of a lot."""
    return all_figures(lot) if lot else NONE


def rows_word(rows):
    """The word of rows."""
    return "|".join([row_word(row) for row in rows]) if rows else NONE


def row_word(row):
    """The word of a row."""
    return "/".join(words_of_numbers(row[:3]) + [knows_word(row[3])])


def knows_word(knows):
    """The word of knows."""
    return "+".join([".".join(words_of_numbers(know)) for know in knows]) if knows else NONE


def words_of_entries(entries):
    """The words of the entries of a copy."""
    words = []
    for name, (promise, taken, opener, rows, sure), pair in entries:
        words.append(";")
        words.extend(words_of_numbers(name + (promise, taken)) + [lot_word(opener), rows_word(rows)])
        words.extend(words_of_numbers((sure,) + pair))
    return words[1:]


def read_letters(text):
    """The letters of the right lines that a text begins with, and how many signs these lines have."""
    check_text(text)
    letters = []
    signs = 0
    # What stands behind the last line feed is no whole line.
    for line in text.split("\n")[:-1]:
        letter = letter_of(line)
        if letter is None or len(letters) == MOST_LETTERS:
            break
        letters.append(letter)
        signs += len(line) + 1
    return (tuple(letters), signs)


def letter_of(line):
    """The letter of a line; None if it is no right one."""
    try:
        letter = read_letter(Words(line))
    except WrongWord:
        return None
    return letter if letter_right(letter) else None


def read_letter(words):
    """What a line tells, if each of its words has the form that it must have."""
    word = words.take(words.look() in LETTER_PARTS)
    letter = (word,) + tuple([read_part(words, sign) for sign in LETTER_PARTS[word]])
    words.end()
    return letter


def read_part(words, sign):
    """The next part of a letter, as its sign wants it."""
    if sign == "n":
        return read_pair(words)
    if sign == "l":
        return read_by(words, lot_of_word)
    if sign == "r":
        return read_by(words, row_of_word)
    if sign == "R":
        return read_by(words, rows_of_word)
    if sign == "k":
        return read_by(words, knows_of_word)
    if sign == "c":
        return read_entries(words)
    return words.number(0)


def read_by(words, function):
    """What the function tells of the next word, which is wrong if that is None."""
    told = function(words.look())
    words.take(told is not None)
    return told


def read_pair(words):
    """The next two words as a name or a pair."""
    one = words.number(0)
    return (one, words.number(0))


def lot_of_word(word):
    """The lot of a word, perhaps ()."""
    return () if word == NONE else numbers_of(word)


def rows_of_word(word):
    """The rows of a word."""
    return () if word == NONE else all_or_none([row_of_word(part) for part in word.split("|")])


def row_of_word(word):
    """The row of a word."""
    parts = word.split("/")
    if len(parts) != 4 or not number_word(parts[0]) or not number_word(parts[1]) or not signed_word(parts[2]):
        return None
    knows = knows_of_word(parts[3])
    return None if knows is None else (int(parts[0]), int(parts[1]), int(parts[2]), knows)


def knows_of_word(word):
    """The knows of a word."""
    return () if word == NONE else all_or_none([know_of_word(part) for part in word.split("+")])


def know_of_word(word):
    """The four numbers of a word."""
    parts = word.split(".")
    if len(parts) != 4 or not all([number_word(part) for part in parts]):
        return None
    return tuple([int(part) for part in parts])


def all_or_none(told):
    """A tuple of all that was told; None if one of them is None."""
    return None if None in told else tuple(told)


def read_entries(words):
    """The entries of a copy."""
    entries = [read_entry(words)]
    while not words.ended():
        words.word(";")
        entries.append(read_entry(words))
    return tuple(entries)


def read_entry(words):
    """One entry of a copy."""
    name = read_pair(words)
    promise = words.number(0)
    taken = words.number(0)
    opener = read_by(words, lot_of_word)
    rows = read_by(words, rows_of_word)
    sure = words.number(0)
    return (name, (promise, taken, opener, rows, sure), read_pair(words))
