"""Rules as texts, [69]."""

import unittest
from random import Random

from fifthhost import errors
from fifthhost.errors import BadRule, BadText, TooMany, WrongWord
from fifthhost.making import rule_of
from fifthhost.rules import made_rule
from fifthhost.ruletexts import read_rule, rule_text
from tests.common import EMPTY, FULL_40, LARGE, NET_ERRORS, R, TEN, Case, linked_net, some_nets
from tests.rulesets import RIGHT, RING_RULE, nested_has, rule_with, some_rule
from tests.textsets import FORTY, NO_NUMBERS, NO_TEXTS, is_list, is_lot, is_number, numbers, spoilt

THREE = linked_net(3, [])
WORDS = ("one", "has", "seam", "ring", "table", "(", ")", "0,1", "1,2", "2", "5", "0,1,2")


class Wrong(Exception):
    """What the slow reader tells of a text that is wrong."""


class Slow:
    """A reader of rules by the words of [69]: what can stand at each place, word by word."""

    def __init__(self, many, text):
        self.many, self.words, self.at, self.parts = many, text.split(" "), 0, 0

    def take(self, right):
        if self.at >= len(self.words) or not right(self.words[self.at]):
            raise Wrong(WrongWord, self.at)
        self.at += 1
        return self.words[self.at - 1]

    def part(self, path):
        if self.parts == 400:
            raise Wrong(TooMany, 401)
        self.parts += 1
        word = self.take(lambda word: len(path) <= 60 and word in WORDS[:5])
        return (word,) + {"one": self.one, "has": self.has, "seam": self.seam, "ring": self.ring, "table": self.table}[word](path)

    def log(self):
        return int(self.take(lambda word: is_number(word, 0, 1000)))

    def inner(self, path):
        self.take("(".__eq__)
        part = self.part(path)
        self.take(")".__eq__)
        return part

    def one(self, path):
        return (self.log(),)

    def has(self, path):
        x = int(self.take(lambda word: is_number(word, 0, self.many)))
        return (x, self.log(), self.inner(path + (3,)))

    def seam(self, path):
        v = int(self.take(lambda word: is_number(word, 0, self.many)))
        side = numbers(self.take(lambda word: is_lot(word, self.many) and v not in numbers(word)))
        z, g = int(self.take(is_number)), int(self.take(is_number))
        return (v, side, z, g, self.inner(path + (5,)), self.inner(path + (6,)))

    def ring(self, path):
        hosts = numbers(self.take(lambda word: is_list(word) and len(numbers(word)) > 2 and max(numbers(word)) < self.many
                                  and len(set(numbers(word))) == len(numbers(word))))
        starts = numbers(self.take(lambda word: is_lot(word, len(hosts))))
        return (hosts, starts, int(self.take(lambda word: is_number(word, 1, len(starts) + 1))), self.log())

    def table(self, path):
        rows = []
        while self.at < len(self.words) and self.words[self.at] != ")":
            lot = numbers(self.take(lambda word: is_lot(word, self.many) and (
                not rows or (len(rows[-1][0]), rows[-1][0]) < (len(numbers(word)), numbers(word)))))
            rows.append((lot, self.log()))
        return (tuple(rows),)


def slow_read(net, text):
    """The rule of a text, or the class of an error and what it keeps."""
    slow = Slow(len(net[0]), text)
    try:
        rule = slow.part(())
        if slow.at < len(slow.words):
            raise Wrong(WrongWord, slow.at)
    except Wrong as wrong:
        return wrong.args
    return rule


class RuleTexts(Case):

    def both_ways(self, net, rule, text):
        self.tells(text, rule_text, net, rule)
        self.tells(rule, read_rule, net, text)

    def wrong(self, text, index, net=THREE):
        self.refuses(WrongWord, index, read_rule, net, text)

    def test_examples(self):
        for text, rule in (("has 0 1 ( table 1 0 1,2 2 )", ("has", 0, 1, ("table", (((1,), 0), ((1, 2), 2))))),
                           ("seam 0 1 2 1 ( one 0 ) ( one 3 )", ("seam", 0, (1,), 2, 1, ("one", 0), ("one", 3))),
                           ("ring 2,0,1 0,2 1 5", ("ring", (2, 0, 1), (0, 2), 1, 5)), ("table", ("table", ()))):
            self.both_ways(THREE, rule, text)
        for index, texts in ((0, ("",)),
                             (1, ("one", "one 1000", "one 0\none 1", "has 3 1 ( one 0 )", "ring 0,1 0 1 0", "table )")),
                             (2, ("one 1 ", "one 1 )", "table 1", "seam 0 0,1 2 1 ( one 0 ) ( one 1 )", "ring 0,1,2 3 1 0")),
                             (3, ("has 0 1 one 0", "has 0 1 (one 0 )", "ring 0,1,2 0,1 3 0", "table 1 0 0 0", "table 1 0 1 1",
                                  "table 1,2 0 0 1")),
                             (6, ("has 0 1 ( one 0",)), (9, ("seam 0 1 2 1 ( one 0 )",))):
            for text in texts:
                self.wrong(text, index)

    def test_paths_of_sixty_and_sixty_one_indices(self):
        text = "has 0 0 ( " * 61 + "one 0" + " )" * 61
        self.wrong(text, 244)
        for word in ("table", "seam", "x", "", "("):
            self.wrong(text.replace("one", word), 244)
        self.wrong(("has 0 0 ( " * 61)[:-1], 244)
        self.both_ways(THREE, nested_has(60), "has 0 0 ( " * 60 + "one 0" + " )" * 60)
        self.wrong("has 0 0 ( " * 60 + "x 0", 240)

    def test_four_hundred_parts_and_one_more(self):
        net = THREE
        rule = rule_with(400)
        text = rule_text(net, rule)
        self.both_ways(net, rule, text)
        more = rule_with(401)
        self.refuses(TooMany, 401, rule_text, net, more)
        words = []

        def tell(part):
            if part[0] == "seam":
                words.extend(["seam", "0", "1", "0", "0", "("])
                tell(part[5])
                words.extend([")", "("])
                tell(part[6])
                words.append(")")
            elif part[0] == "has":
                words.extend(["has", "0", "0", "("])
                tell(part[3])
                words.append(")")
            else:
                words.extend(["one", "0"])

        tell(more)
        # At the 401st part, whatever stands there, also nothing at all.
        at = max(index for index, word in enumerate(words) if word in ("one", "has", "seam"))
        for end in (words[at:], [], ["x"], ["", ""], ["one"], ["table", "9"]):
            self.refuses(TooMany, 401, read_rule, net, " ".join(words[:at] + end))
        self.wrong(" ".join(words[:at - 1]), at - 1)
        self.wrong(" ".join(words[:at - 1] + [")"]), at - 1)

    def test_too_many_parts_ahead_of_too_long_a_path(self):
        # Behind a first rule of many parts 60 has lead to a part whose path has 61 indices.
        for many, error in ((338, WrongWord), (339, TooMany)):
            first = rule_text(THREE, rule_with(many))
            text = f"seam 0 1 0 0 ( {first} ) ( " + "has 0 0 ( " * 60
            for end in ("one 0", "x", "", "table )"):
                self.refuses(error, 401 if error is TooMany else len(text.split(" ")) - 1, read_rule, THREE, text + end)
            self.refuses(error, 401 if error is TooMany else len(text.split(" ")) - 1, read_rule, THREE, text[:-1])

    def test_each_word_wrong_lacking_and_one_too_many(self):
        net = linked_net(5, [])
        for rule in RIGHT:
            if rule[0] == "table" and len(rule[1]) > 5:
                rule = ("table", rule[1][:5])
            if LARGE in rule:
                rule = ("seam", 4, (0, 1, 2, 3), 7, 10 ** 40 - 1, ("one", 0), ("has", 1, 2, ("table", ())))
            text = rule_text(net, rule)
            self.both_ways(net, rule, text)
            words = text.split(" ")
            for at in range(len(words) + 1):
                for word in NO_NUMBERS + ("5", "1000", "0", "3", "( one 0 )", "0,0", "1,0", "0,5", ")", "("):
                    for told in (words[:at] + [word] + words[at:], words[:at] + [word] + words[at + 1:], words[:at]):
                        self.beside(net, " ".join(told))

    def beside(self, net, text):
        """What is read is what the slow reader tells; whether it is a rule."""
        wanted = slow_read(net, text)
        if isinstance(wanted[0], str):
            self.tells(wanted, read_rule, net, text)
            self.tells(text, rule_text, net, made_rule(net, wanted))
            return True
        self.refuses(*wanted, read_rule, net, text)
        return False

    def test_drawn_rules_and_spoilt_texts(self):
        right = 0
        for seed in range(60):
            chance = Random(seed)
            many = chance.randint(2, 6)
            net = linked_net(many, [])
            rule = some_rule(chance, many, chance.choice((0, 1, 2, 3)))
            text = rule_text(net, rule)
            if str(LARGE) not in text:
                self.both_ways(net, rule, text)
            for _ in range(40):
                right += self.beside(net, spoilt(chance, text.replace(str(LARGE), "3"), WORDS))
        self.assertGreater(right, 60)

    def test_rules_that_are_made(self):
        for net in list(some_nets(5, 60)) + [R, TEN]:
            rule = rule_of(net)
            self.tells(rule, read_rule, net, rule_text(net, rule))

    def test_logs_and_counts_at_their_edges(self):
        for text in ("one 999", "has 2 999 ( one 0 )", "seam 0 1 0 0 ( one 0 ) ( one 0 )", f"seam 0 1 {FORTY} {FORTY} ( one 0 ) ( one 0 )",
                     "ring 0,1,2 0,1,2 3 999", "ring 0,1,2 2 1 0", "table 0 0 1 999 2 0 0,1 5 0,2 5 1,2 5 0,1,2 5",
                     "has 0 0 ( table )", "seam 0 1 0 0 ( table ) ( table 0 0 )"):
            self.assertTrue(self.beside(THREE, text))
        for text, index in (("one 1000", 1), (f"one {FORTY}", 1), ("has 3 0 ( one 0 )", 1), ("has 0 1000 ( one 0 )", 2),
                            (f"seam 0 1 1{FORTY} 0 ( one 0 ) ( one 0 )", 3), (f"seam 0 1 0 1{FORTY} ( one 0 ) ( one 0 )", 4),
                            ("seam 1 1 0 0 ( one 0 ) ( one 0 )", 2), ("seam 1 2,0 0 0 ( one 0 ) ( one 0 )", 2),
                            ("ring 0,1,2 0 0 0", 3), ("ring 0,1,2 0,1 3 0", 3), ("ring 0,1,3 0 1 0", 1), ("ring 0,1,1 0 1 0", 1),
                            ("ring 0,1,2,0 0 1 0", 1), ("ring 0,1,2 1,0 1 0", 2), ("ring 0,1,2 0 1 1000", 4), ("table 3 0", 1),
                            ("table 0 1000", 2), ("table 0,1 0 2 0", 3), ("table 0 0 0 0", 3), ("table 0 0 1", 4), ("Table", 0)):
            self.wrong(text, index)
            self.assertFalse(self.beside(THREE, text))

    def test_four_thousand_figures_and_one_more(self):
        for z, g in ((10 ** 4000 - 1, 0), (0, 10 ** 4000 - 1)):
            self.assertEqual(len(rule_text(THREE, ("seam", 0, (1,), z, g, ("one", 0), ("one", 0)))), 4031)
        for z, g in ((10 ** 4000, 0), (0, 10 ** 4000), (10 ** 4199, 10 ** 4199)):
            rule = ("has", 0, 0, ("seam", 0, (1,), z, g, ("one", 0), ("one", 0)))
            self.refuses(TooMany, 4000, rule_text, THREE, rule)

    def test_what_is_refused_in_its_order(self):
        for net, error, what in NET_ERRORS:
            self.refuses(getattr(errors, error), what, rule_text, net, None)
            self.refuses(getattr(errors, error), what, read_rule, net, None)
        for rule, path in ((None, ()), (("one", -1), ()), (("has", 0, 0, ("one",)), (3,)), (["table", ()], ())):
            self.refuses(BadRule, path, rule_text, THREE, rule)
        self.refuses(BadRule, (), rule_text, EMPTY, RING_RULE)
        for text in NO_TEXTS:
            self.refuses(BadText, 0, read_rule, THREE, text)
        for text in ("", "x" * 200000, " " * 200000):
            self.wrong(text, 0)
        self.wrong("one 0" + " " * 199995, 2)
        self.tells("one 5", rule_text, rule=("one", 5), net=EMPTY)
        self.tells(("one", 5), read_rule, text="one 5", net=EMPTY)

    def test_a_net_of_forty_hosts(self):
        ring = ("ring", tuple(range(39, -1, -1)), tuple(range(40)), 40, 999)
        for rule in (ring, ("has", 39, 0, ring), ("table", ((tuple(range(40)), 3),))):
            self.tells(rule, read_rule, FULL_40, rule_text(FULL_40, rule))
        self.wrong("has 40 0 ( one 0 )", 1, FULL_40)
        self.wrong("has 0 0 ( one 0 )", 1, EMPTY)


if __name__ == "__main__":
    unittest.main()
