"""Letters as texts, [71], letters read and torn files, [72], there and back, [73]."""

import re
import unittest
from random import Random

from fifthhost.cluster import Cluster
from fifthhost.disks import made_letters
from fifthhost.errors import BadLetters, BadText, TooMany
from fifthhost.lettertexts import letters_text, read_letters
from fifthhost.making import rule_of
from tests.clustersets import DEEDS, NETS, outcome, some_deed
from tests.common import BROAD, LARGE, NO_TUPLES, Case
from tests.lettersets import RIGHT, STORY, some_letter
from tests.textsets import FORTY, NO_TEXTS, spoilt

EXAMPLES = (
    ("promise 0 1 3", ("promise", (0, 1), 3)),
    ("take 0 1 3 0,2 1/5/-7/none|2/5/9/0.1.1.1", ("take", (0, 1), 3, (0, 2), ((1, 5, -7, ()), (2, 5, 9, ((0, 1, 1, 1),))))),
    ("note 0 1 3/5/8/0.0.1.2+0.1.2.2 2", ("note", (0, 1), (3, 5, 8, ((0, 0, 1, 2), (0, 1, 2, 2))), 2)),
    ("hold 0 1 3/5/8/none", ("hold", (0, 1), (3, 5, 8, ()))),
    ("sure 0 1 3 0,2", ("sure", (0, 1), 3, (0, 2))),
    ("hear none", ("hear", ())),
    ("copy 0 0 1 1 none 1/5/7/none 1 1 1 ; 0 1 2 0 0 none 0 0 0",
     ("copy", (((0, 0), (1, 1, (), ((1, 5, 7, ()),), 1), (1, 1)), ((0, 1), (2, 0, (0,), (), 0), (0, 0))))),
)
# What lines are spoilt by, and what they have to be.
WORDS = ("none", "0,2", "1/5/7/none", "2/5/9/0.1.1.1", "0.1.1.1", ";", "promise", "take", "copy", "sure", "hear", "\nhear none\n")
FIGURES = "(?:0|[1-9][0-9]{0,39})"
ABOVE = "(?:[1-9][0-9]{0,39})"
KNOWS = rf"(?:none|{FIGURES}\.{FIGURES}\.{ABOVE}\.{ABOVE}(?:\+{FIGURES}\.{FIGURES}\.{ABOVE}\.{ABOVE})*)"
ROW = rf"{ABOVE}/(?:0|[1-9][0-9]{{0,2}})/(?:0|-?{ABOVE})/{KNOWS}"
ROWS = rf"(?:none|{ROW}(?:\|{ROW})*)"
LOT = rf"{FIGURES}(?:,{FIGURES})*"
ENTRY = rf"{FIGURES} {FIGURES} {FIGURES} {FIGURES} (?:none|{LOT}) {ROWS} {FIGURES} (?:0 0|{ABOVE} {ABOVE})"
LINE = re.compile(rf"promise {FIGURES} {FIGURES} {ABOVE}|take {FIGURES} {FIGURES} {ABOVE} {LOT} {ROWS}|note {FIGURES} {FIGURES} "
                  rf"{ROW} {FIGURES}|hold {FIGURES} {FIGURES} {ROW}|sure {FIGURES} {FIGURES} {FIGURES} {LOT}|hear {KNOWS}"
                  rf"|copy {ENTRY}(?: ; {ENTRY})*")


def rises(rows):
    return all(a < b for a, b in zip(rows, rows[1:]))


def right_line(line):
    """Whether a line is that of a letter, by the forms of [71] and what has to rise in them."""
    if not LINE.fullmatch(line):
        return False
    for knows in re.findall(r"[0-9]+(?:\.[0-9]+){3}(?:\+[0-9]+(?:\.[0-9]+){3})*", line):
        if not rises([tuple(map(int, know.split(".")[:2])) for know in knows.split("+")]):
            return False
    for lot in re.findall(r"(?<![0-9./|+-])[0-9]+(?:,[0-9]+)+", line):
        if not rises(list(map(int, lot.split(",")))):
            return False
    names = [tuple(map(int, entry.split(" ")[:2])) for entry in line[5:].split(" ; ")] if line.startswith("copy") else []
    return rises(names)


def right_lines(text):
    """The right lines that a text begins with."""
    told = []
    for line in text.split("\n")[:-1][:2000]:
        if not right_line(line):
            break
        told.append(line + "\n")
    return "".join(told)


class LetterTexts(Case):

    def both_ways(self, letters, text):
        self.tells(text, letters_text, letters)
        self.tells((letters, len(text)), read_letters, text)

    def beside(self, text):
        """What is read are the right lines; these are told again as they stood there. How many letters they are."""
        letters, signs = read_letters(text)
        self.assertIs(made_letters(letters), letters)
        self.assertEqual(signs, len(right_lines(text)), repr(text))
        self.tells(text[:signs], letters_text, letters)
        self.tells((letters, signs), read_letters, text)
        return len(letters)

    def test_examples(self):
        for line, letter in EXAMPLES:
            self.both_ways((letter,), line + "\n")
        self.both_ways(tuple(letter for _, letter in EXAMPLES), "".join(line + "\n" for line, _ in EXAMPLES))
        two = (("promise", (0, 1), 3), ("sure", (0, 1), 3, (0, 2)))
        self.tells((two, 29), read_letters, "promise 0 1 3\nsure 0 1 3 0,2\n")
        for text in ("promise 0 1 3\nsure 0 1 3 0,2", "promise 0 1 3\nsure 0 1 3  0,2\n", "promise 0 1 3\n\n",
                     "promise 0 1 3\npromise 0 1 0\n"):
            self.tells((two[:1], 14), read_letters, text)
        for text in ("", "hear none", "hear none\r\n", "hear none \n", "promise 0 1 03\n", "sure 0 1 3 2,0\n"):
            self.tells(((), 0), read_letters, text)

    def test_each_kind(self):
        self.tells("", letters_text, ())
        for letters in ((), STORY) + tuple((letter,) for letter in RIGHT):
            text = letters_text(letters)
            self.assertEqual(text.count("\n"), len(letters))
            if str(LARGE) not in text:
                self.both_ways(letters, text)
            else:
                self.tells(((), 0), read_letters, text)

    def test_texts_torn_at_each_sign(self):
        text = "".join(line + "\n" for line, _ in EXAMPLES)
        for size in range(len(text) + 1):
            whole = text[:size].count("\n")
            signs = sum(len(line) + 1 for line, _ in EXAMPLES[:whole])
            self.tells((tuple(letter for _, letter in EXAMPLES[:whole]), signs), read_letters, text[:size])

    def test_lines_spoilt_in_one_sign(self):
        for line, letter in EXAMPLES:
            for at in range(len(line) + 1):
                for sign in "0123456789 ,./|+;-na\n\t\r\u0663":
                    for told in (line[:at] + sign + line[at:], line[:at] + sign + line[at + 1:]):
                        self.beside("hear none\n" + told + "\nhear none\n")
                self.beside(line[:at] + line[at + 1:] + "\n")

    def test_drawn_letters_spoilt(self):
        told = 0
        for seed in range(120):
            chance = Random(seed)
            letters = tuple(some_letter(chance) for _ in range(chance.randint(1, 8)))
            text = letters_text(letters)
            self.both_ways(letters, text)
            for _ in range(30):
                told += self.beside(spoilt(chance, text, WORDS))
        self.assertGreater(told, 3000)

    def test_each_word_wrong_lacking_and_one_too_many(self):
        for line, _ in EXAMPLES:
            words = line.split(" ")
            for at in range(len(words) + 1):
                for word in WORDS[:-1] + ("", "0", "1", "1000", "-1", "00", "1,0", "0,0", "0,", "1/5/7", "0/5/7/none", "1/1000/7/none",
                                          "1/5/-0/none", "1/5/+7/none", "1/5/7/", "1/5/7/none/", "1/5/7/none|", "0.0.0.1", "0.0.1.0",
                                          "0.1.1.1+0.0.1.1", "0.0.1.1+0.0.1.2", "0.0.1", "0.0.1.1.1", "none+0.0.1.1", "none|1/5/7/none",
                                          "None", "\t"):
                    for told in (words[:at] + [word] + words[at:], words[:at] + [word] + words[at + 1:], words[:at]):
                        self.beside("hear none\n" + " ".join(told) + "\nhear none\n")

    def test_two_thousand_lines_and_one_more(self):
        text = "hear none\n" * 2000
        self.both_ways((("hear", ()),) * 2000, text)
        for more in ("hear none\n", "x\n", "hear none", "\n"):
            self.tells(((("hear", ()),) * 2000, 20000), read_letters, text + more)
        self.refuses(TooMany, 2001, letters_text, (("hear", ()),) * 2001)

    def test_numbers_of_forty_and_forty_one_figures(self):
        longer = "1" + "0" * 40
        lines = ("promise {} 0 1", "promise 0 {} 1", "promise 0 0 {}", "take 0 0 {} 1 none", "take 0 0 1 {} none",
                 "take 0 0 1 1,{} none", "take 0 0 1 1 {}/5/7/none", "take 0 0 1 1 1/5/{}/none", "take 0 0 1 1 1/5/-{}/none",
                 "note 0 0 1/5/7/{}.0.1.1 0", "note 0 0 1/5/7/0.{}.1.1 0", "note 0 0 1/5/7/0.0.{}.1 0", "note 0 0 1/5/7/0.0.1.{} 0",
                 "note 0 0 1/5/7/none {}", "sure 0 0 {} 1", "hear 0.0.{}.1", "copy {} 0 0 0 none none 0 0 0",
                 "copy 0 0 {} 0 none none 0 0 0", "copy 0 0 0 {} none none 0 0 0", "copy 0 0 0 0 {} none 0 0 0",
                 "copy 0 0 0 0 none none {} 0 0", "copy 0 0 0 0 none none 0 {} 1", "copy 0 0 0 0 none none 0 1 {}")
        for line in lines:
            self.assertEqual(self.beside(line.format(FORTY) + "\n"), 1, line)
            self.assertEqual(self.beside(line.format(longer) + "\n"), 0, line)
        letters = (("promise", (0, 0), 10 ** 40),)
        self.tells("promise 0 0 " + longer + "\n", letters_text, letters)

    def test_four_thousand_figures_and_one_more(self):
        large = 10 ** 4000
        for number in (large - 1, large, 10 ** 4199):
            for letter in (("promise", (number, 0), 1), ("promise", (0, 0), number), ("take", (0, 0), 1, (0, number), ()),
                           ("hold", (0, 0), (number, 0, 0, ())), ("hold", (0, 0), (1, 0, -number, ())),
                           ("hear", ((0, 0, 1, 1), (0, 1, 1, number))), ("sure", (0, 0), number, (1,)),
                           ("copy", (((0, 0), (number, 0, (), (), 0), (0, 0)),)), ("copy", (((0, 0), (0, 0, (), (), 0), (1, number)),)),
                           ("copy", (((0, 0), (0, 0, (), ((1, 0, number, ()),), 0), (0, 0)),))):
                if number < large:
                    self.assertIn("9" * 4000, letters_text((letter,)))
                else:
                    self.refuses(TooMany, 4000, letters_text, STORY + (letter,))

    def test_what_is_refused(self):
        for text in NO_TEXTS:
            self.refuses(BadText, 0, read_letters, text)
        for thing in NO_TUPLES + (None, [], [STORY]):
            self.refuses(BadLetters, -1, letters_text, thing)
        self.refuses(BadLetters, 1, letters_text, (("hear", ()), ("promise", (0, 1), 0)))
        self.refuses(TooMany, 299000, letters_text, BROAD)

    def test_long_texts(self):
        rows = ((1, 0, 0, ()),) * 18180
        text = letters_text((("take", (0, 0), 1, (0,), rows),))
        self.assertEqual(len(text), 199993)
        self.both_ways((("take", (0, 0), 1, (0,), rows),), text)
        self.tells(((("take", (0, 0), 1, (0,), rows),), 199993), read_letters, text + "hear 0.")
        self.refuses(BadText, 0, read_letters, text + "hear 0.0")
        # It may be told, but not read.
        longer = letters_text((("take", (0, 0), 1, (0,), rows + rows),))
        self.refuses(BadText, 0, read_letters, longer)

    def test_letters_of_clusters(self):
        for seed in range(20):
            chance = Random(seed)
            net = chance.choice(NETS)
            c = Cluster(net, rule_of(net))
            for _ in range(60):
                word, *parts = some_deed(chance, c, DEEDS + ["forget"])
                outcome(getattr(c, word), *parts)
            for x in range(len(net[0])):
                if c.state(x)[1] == "written":
                    letters = c.letters(x)
                    self.both_ways(letters, letters_text(letters))

    def test_calls(self):
        self.tells("hear none\n", letters_text, letters=(("hear", ()),))
        self.tells(((("hear", ()),), 10), read_letters, text="hear none\n")


if __name__ == "__main__":
    unittest.main()
