"""What the tests of texts share: what a line may be, word by word, by the document's words, and texts that are spoilt."""

import re

from tests.common import LARGE

NUMBER = re.compile(r"(0|[1-9][0-9]{0,39})\Z")
NO_TEXTS = (None, True, 0, 1.0, b"need 1", [], ["need 1"], ("need 1",), (), "x" * 200001, "\n" * 200001, LARGE)
# Words that are never a number word.
NO_NUMBERS = ("", "00", "07", "+7", "1_0", "7.", "7.0", "-7", "-0", "-", "a", "0x1", "1e3", "\u0663", "\u00b2", "\uff11", "1\t",
              "\r1", "1\r", "\t", "1,", ",1", "none", "1" * 41, "9" * 41, "1" + "0" * 40, "0" * 40, "True", "None")
FORTY = "9" * 40


def is_number(word, least=0, below=None):
    """Whether a word is a number word of this size."""
    return bool(NUMBER.match(word)) and int(word) >= least and (below is None or int(word) < below)


def is_signed(word):
    """Whether a word is a signed word."""
    return is_number(word) or word.startswith("-") and is_number(word[1:], 1)


def is_list(word):
    """Whether a word is a list word."""
    return all(is_number(part) for part in word.split(","))


def numbers(word):
    """The numbers of a list word."""
    return tuple(int(part) for part in word.split(","))


def is_lot(word, below):
    """Whether a word is a lot word of numbers below a bound."""
    return is_list(word) and all(a < b for a, b in zip(numbers(word), numbers(word)[1:])) and numbers(word)[-1] < below


def wrong_at(words, rules):
    """The index of the wrong word of a line, given for each place whether a word can stand there; None if there is none."""
    for index, rule in enumerate(rules):
        if index >= len(words) or not (rule(words[index]) if callable(rule) else words[index] == rule):
            return index
    return None if len(words) == len(rules) else len(rules)


def spoilt(chance, text, words=()):
    """A text that is otherwise in a place or two: a word or a sign more, less, another one, or turned about."""
    for _ in range(chance.choice((1, 1, 1, 2))):
        parts = re.split(r"([ \n,./|+;])", text)
        at = chance.randrange(len(parts))
        deed = chance.randrange(6)
        if deed == 0:
            parts[at] = chance.choice(tuple(words) + ("0", "1", "2", "3", "7", "40", "999", "1000", "", "-1", "-0", "01", FORTY, "9" * 41))
        elif deed == 1:
            del parts[at]
        elif deed == 2:
            parts.insert(at, chance.choice(tuple(words) + (" ", "\n", " 0", " 1", ",", "-", "\t", "\r", ")", "( ")))
        elif deed == 3:
            other = chance.randrange(len(parts))
            parts[at], parts[other] = parts[other], parts[at]
        elif deed == 4:
            lines = text.split("\n")
            line = chance.randrange(len(lines))
            parts = ["\n".join(lines[:line] + [chance.choice(lines)] + lines[line:])]
        else:
            sign = chance.randrange(len(text) + 1)
            parts = [text[:sign] + chance.choice("0123456789 -,\n\ta;") + text[sign + chance.randrange(2):]]
        text = "".join(parts)
    return text
