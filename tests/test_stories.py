"""Stories, [65], stories run, [66], and stories as texts, [70]."""

import unittest
from random import Random

from fifthhost import errors
from fifthhost.cluster import Cluster
from fifthhost.errors import BadRule, BadStory, BadText, TooMany, WrongLine
from fifthhost.events import made_story
from fifthhost.making import rule_of
from fifthhost.stories import run
from fifthhost.storytexts import read_story, story_text
from tests.clustersets import DEEDS, NETS, outcome, some_deed
from tests.common import BROAD, DEEP, EMPTY, LARGE, NAN, NET_ERRORS, NO_NUMBERS, NO_TUPLES, R, Case, alike, frozen, plain
from tests.rulesets import RING_RULE, ZERO
from tests.textsets import FORTY, NO_TEXTS, is_signed, spoilt, wrong_at
from tests.textsets import NO_NUMBERS as NO_WORDS

SIGNS = {"cut": "nn", "mend": "nn", "down": "n", "up": "n", "wipe": "n", "forget": "n", "restore": "nn", "begin": "nl",
         "put": "nnnl", "share": "n", "change": "nvnl", "read": "nnn", "show": "nn", "known": "n"}
EXAMPLE = (("cut", 1, 2), ("cut", 4, 3), ("cut", 0, 4), ("begin", 0, None), ("put", 0, 5, 7, None), ("put", 4, 5, 7, None),
           ("cut", 4, 0), ("up", 5), ("read", 1, 0, 0), ("begin", 2, 3))
# An event of each kind, with and without letters, and with numbers of any size and sign.
RIGHT = (("cut", -1, 7), ("mend", LARGE, -LARGE), ("down", 0), ("up", -5), ("wipe", 3), ("forget", 1), ("restore", 2, 2),
         ("begin", 0, None), ("begin", 0, -5), ("put", 0, 1000, -7, None), ("put", 0, 5, LARGE, 3), ("share", 99),
         ("change", 0, (1, 0, 1), 2, None), ("change", 0, (), -1, 0), ("change", 0, (-LARGE,), 0, LARGE), ("read", 1, -1, 7),
         ("show", 0, -3), ("known", 0))
NO_INTS = (True, False, 0.0, 1.5, NAN, "", "0", (), (0,), [], [1], DEEP, BROAD)


def wrong_events():
    """Events with one part wrong each, and what is no event at all."""
    for event in RIGHT:
        yield from (event[:-1], event + (0,), event + (None,), list(event), (event,), event[1:])
        for word in ("", "CUT", "cuts", "open", "cut ", b"cut", None, 0, True, (), ("cut",), ["cut"], DEEP):
            yield (word,) + event[1:]
        for index, sign in enumerate(SIGNS[event[0]]):
            wrong = {"n": NO_INTS + (None,), "l": NO_INTS, "v": (None, 5, 1.0, True, "", "1", [], [1], (None,), (1, True), (1, 1.0),
                                                                 ((1,),), (1, "1"), DEEP, (NAN,))}[sign]
            for thing in wrong:
                yield event[:index + 1] + (thing,) + event[index + 2:]
    yield from NO_NUMBERS + NO_TUPLES + (("cut",), "cut", ("cut", 1), RIGHT)


class Stories(Case):

    def test_examples(self):
        story = (("cut", -1, 7), ("begin", 0, -5))
        self.assertIs(made_story(story), story)
        self.refuses(BadStory, 1, made_story, (("share", 0), ("begin", 0)))
        self.refuses(BadStory, 0, made_story, (("change", 0, (1, True), 2, None),))

    def test_right_stories(self):
        for story in ((), RIGHT, EXAMPLE, RIGHT * 22) + tuple((event,) for event in RIGHT):
            self.assertIs(made_story(story), story)
            self.assertIs(made_story(thing=story), story)

    def test_each_part_wrong_by_itself(self):
        for index, event in enumerate(wrong_events()):
            self.refuses(BadStory, 0, made_story, (event,))
            if index % 5 == 0:
                self.refuses(BadStory, 2, made_story, RIGHT[:2] + (event, event))
                self.refuses(BadStory, 1, story_text, (("cut", 1, 1), event))
                self.refuses(BadStory, 1, run, R, ZERO, (("cut", 1, 1), event))

    def test_four_hundred_events_and_one_more(self):
        story = (("share", 0),) * 400
        self.assertIs(made_story(story), story)
        for function in (made_story, story_text, lambda thing: run(R, ZERO, thing)):
            self.refuses(TooMany, 401, function, story + (("share", 0),))
            self.refuses(TooMany, 401, function, (None,) * 401)
            self.refuses(TooMany, 299000, function, BROAD)
            self.refuses(BadStory, 399, function, story[1:] + (None,))
            for thing in NO_TUPLES + (None, [], [("share", 0)]):
                self.refuses(BadStory, -1, function, thing)


class Runs(Case):

    def test_example(self):
        self.tells((("told", None), ("told", None), ("told", None), ("told", 1), ("told", 0), ("refused", "NotWorking"),
                    ("refused", "Already"), ("refused", "BadHost"), ("told", (((1, 5, 7, ()),), 1)), ("told", None)),
                   run, R, RING_RULE, EXAMPLE)

    def beside(self, net, rule, story):
        """What is told of a story is what a fresh cluster tells, asked the same one by one; which errors were refused."""
        c = Cluster(net, rule)
        told = run(net, rule, story)
        self.assertTrue(plain(told))
        self.assertEqual(len(told), len(story))
        for (word, *parts), pair in zip(story, told):
            if word == "read":
                parts = [parts[0], (parts[1], parts[2])]
            name, what = outcome(getattr(c, word), *parts)
            wanted = ("told", what) if name == "told" else ("refused", name)
            self.assertTrue(alike(wanted, pair), (word, parts, wanted, pair))
        return {what for word, what in told if word == "refused"}

    def test_drawn_stories(self):
        met = set()
        for seed in range(40):
            chance = Random(seed)
            net = chance.choice(NETS)
            rule = rule_of(net) if seed % 4 else ("table", ())
            c = Cluster(net, rule)
            story = []
            for _ in range(chance.randint(0, 120)):
                if chance.random() < 0.25:
                    event = self.any_event(chance, len(net[0]))
                else:
                    word, *parts = some_deed(chance, c, DEEDS + ["forget"])
                    event = (word, *parts)
                story.append(event)
                if event[0] not in ("read", "show", "known"):
                    outcome(getattr(c, event[0]), *event[1:])
            met |= self.beside(net, rule, tuple(story))
        for name in """BadHost Down Blank NotDown NotBlank Already NoLink NotWorking Unruled NotOpen BadLetters BadKey BadName BadVotes
                       BadNeed NotCommanding Harmful""".split():
            self.assertIn(name, met)

    def any_event(self, chance, many):
        """An event of any word, with any numbers."""
        word = chance.choice(sorted(SIGNS))
        event = [word]
        for sign in SIGNS[word]:
            number = chance.choice((0, 0, 1, 2, 3, many - 1, many, -1, 5, 1000))
            if sign == "v":
                event.append(tuple(chance.choice((0, 1, 1, 2, -1) if chance.random() < 0.2 else (0, 1, 2))
                                   for _ in range(chance.choice((many, many, many, 0, 1)))))
            else:
                event.append(None if sign == "l" and chance.random() < 0.5 else number)
        return tuple(event)

    def test_a_refused_event_changes_nothing_and_the_story_goes_on(self):
        wrong = (("cut", 0, 9), ("begin", 0, 16), ("put", 0, 1000, 0, None), ("up", 0), ("wipe", 1), ("forget", 2), ("restore", 1, 2),
                 ("change", 0, (1,), 2, None), ("change", 0, (1,) * 5, 0, None), ("read", 0, -1, 0), ("show", 0, -1), ("mend", 0, 1))
        right = (("begin", 0, None), ("put", 0, 5, 7, None), ("change", 0, (1,) * 5, 3, None), ("begin", 3, 11), ("put", 1, 5, 8, 12),
                 ("known", 4), ("show", 2, 5), ("read", 2, 1, 0))
        story = wrong + sum(((event,) + wrong for event in right), ())
        told = run(R, RING_RULE, story)
        self.assertEqual([pair for event, pair in zip(story, told) if event in right], list(run(R, RING_RULE, right)))
        self.assertTrue(all(pair[0] == "refused" for event, pair in zip(story, told) if event in wrong))
        self.beside(R, RING_RULE, story)

    def test_numbers_of_any_size_and_sign(self):
        told = run(R, RING_RULE, RIGHT)
        self.assertEqual(len(told), len(RIGHT))
        self.beside(R, RING_RULE, RIGHT)
        self.beside(EMPTY, ZERO, RIGHT)

    def test_what_is_refused_in_its_order(self):
        for net, error, what in NET_ERRORS:
            self.refuses(getattr(errors, error), what, run, net, None, None)
        self.refuses(BadRule, (), run, R, ("one", 1000), None)
        self.refuses(BadStory, -1, run, R, ZERO, [])
        self.tells((), run, R, ZERO, ())

    def test_calls(self):
        args = (R, RING_RULE, EXAMPLE)
        ahead = frozen(args)
        told = run(*args)
        self.tells(told, run, story=EXAMPLE, net=R, rule=RING_RULE)
        self.tells(told, run, R, story=EXAMPLE, rule=RING_RULE)
        self.assertTrue(alike(args, ahead))


def slow_read(text):
    """The story of a text, or the pair of its first wrong line and word, by the words of [70]."""
    if text == "":
        return "right", ()
    story = []
    for index, line in enumerate(text.split("\n")):
        if index == 400:
            return "wrong", (400, 0)
        words = line.split(" ")
        if words[0] not in SIGNS:
            return "wrong", (index, 0)
        signs = SIGNS[words[0]]
        rules = [words[0]] + [is_votes if sign == "v" else is_signed for sign in signs.replace("l", "")]
        if signs.endswith("l") and len(words) > len(rules):
            rules += ["letters", is_signed]
        wrong = wrong_at(words, rules)
        if wrong is not None:
            return "wrong", (index, wrong)
        story.append(event_of(words, signs))
    return "right", tuple(story)


def event_of(words, signs):
    """The event of the words of a right line."""
    parts = [votes_of(word) if sign == "v" else int(word) for word, sign in zip(words[1:], signs.replace("l", ""))]
    if signs.endswith("l"):
        parts.append(int(words[-1]) if "letters" in words else None)
    return (words[0], *parts)


def is_votes(word):
    return word == "none" or all(is_signed(part) for part in word.split(","))


def votes_of(word):
    return () if word == "none" else tuple(map(int, word.split(",")))


class StoryTexts(Case):

    def both_ways(self, story, text):
        self.tells(text, story_text, story)
        self.tells(story, read_story, text)

    def wrong(self, text, pair):
        self.refuses(WrongLine, pair, read_story, text)

    def beside(self, text):
        word, wanted = slow_read(text)
        if word == "right":
            self.both_ways(wanted, text)
        else:
            self.wrong(text, wanted)
        return word == "right"

    def test_examples(self):
        self.both_ways((("cut", 1, 2), ("begin", 0, None), ("put", 0, 5, -7, 3), ("change", 0, (1, 0, 1), 2, None)),
                       "cut 1 2\nbegin 0\nput 0 5 -7 letters 3\nchange 0 1,0,1 2")
        self.both_ways((("change", 0, (), -1, 0),), "change 0 none -1 letters 0")
        for pair, texts in (((0, 0), ("\n", " ", "open 0")), ((0, 2), ("cut 1", "cut 1 02 x", "begin 0 letter 3", "change 0 1,,1 2")),
                            ((0, 3), ("cut 1 2 3", "put 0 5 -0", "begin 0 letters")), ((0, 4), ("begin 0 letters 3 4",)),
                            ((1, 0), ("known 0\n",)), ((1, 3), ("begin 0\nread 0 0",))):
            for text in texts:
                self.wrong(text, pair)

    def test_each_kind_of_event(self):
        rows = ("cut -1 7", "mend 3 0", "down 0", "up -5", "wipe 3", "forget 1", "restore 2 2", "begin 0", "begin 0 letters -5",
                "put 0 1000 -7", "put 0 5 0 letters 3", "share 99", "change 0 1,0,1 2", "change 0 none -1 letters 0",
                "change 0 -4 0 letters 17", "read 1 -1 7", "show 0 -3", "known 0")
        for row in rows:
            self.assertTrue(self.beside(row))
        self.assertTrue(self.beside("\n".join(rows)))
        self.both_ways((), "")

    def test_each_word_wrong_lacking_and_one_too_many(self):
        for row in ("cut -1 7", "restore 2 2", "down 0", "begin 0", "begin 0 letters -5", "put 0 5 0 letters 3", "change 0 1,0,1 2",
                    "change 0 none -1 letters 0", "read 1 -1 7", "show 0 -3"):
            words = row.split(" ")
            for at in range(len(words) + 1):
                for word in NO_WORDS + ("letters", "letter", "none", "0,0", "-1", "-01", "--1", "1,-0", "1,-2", "none,1", "1,none", "cut"):
                    for told in (words[:at] + [word] + words[at:], words[:at] + [word] + words[at + 1:], words[:at]):
                        self.beside("known 0\n" + " ".join(told))
        self.wrong("change 0  2", (0, 2))
        self.wrong("Cut 0 1", (0, 0))
        self.wrong("cut\t0 1", (0, 0))
        self.wrong("cut 0 1\r\ncut 0 1", (0, 2))

    def test_numbers_of_forty_and_of_more_figures(self):
        for word in ("0", FORTY, "-" + FORTY, "-1"):
            self.assertTrue(self.beside(f"put {word} {word} {word} letters {word}"))
            self.assertTrue(self.beside(f"change 0 {word},{word} {word}"))
        for word in ("1" + FORTY, "-1" + FORTY, "-0", "00"):
            for at in (1, 2, 3, 5):
                words = ["put", "0", "0", "0", "letters", "0"]
                words[at] = word
                self.wrong(" ".join(words), (0, at))
            self.wrong(f"change 0 0,{word} 0", (0, 2))
        self.tells("show 0 1" + "0" * 40, story_text, (("show", 0, 10 ** 40),))

    def test_four_thousand_figures_and_one_more(self):
        large = 10 ** 4000
        for number in (large - 1, 1 - large):
            for event in (("show", 0, number), ("change", 0, (0, number), 0, None), ("begin", 0, number)):
                self.assertIn("9" * 4000, story_text((event,)))
        for number in (large, -large, 10 ** 4199, -10 ** 4199):
            for event in (("show", 0, number), ("change", 0, (0, number), 0, None), ("begin", 0, number)):
                self.refuses(TooMany, 4000, story_text, (("known", 0), event))

    def test_four_hundred_lines_and_one_more(self):
        text = "\n".join(["share 0"] * 400)
        self.both_ways((("share", 0),) * 400, text)
        for line in ("share 0", "", "x", "share 0\nshare 0"):
            self.wrong(text + "\n" + line, (400, 0))
        self.wrong(text + " ", (399, 2))
        self.wrong("x" + text + "\nx", (0, 0))

    def test_what_is_no_text(self):
        for text in NO_TEXTS:
            self.refuses(BadText, 0, read_story, text)
        self.wrong("known 0" + "\n" * (200000 - 7), (1, 0))
        self.refuses(BadText, 0, read_story, "known 0" + "\n" * (200001 - 7))
        long = "change 0 " + ",".join(["1"] * 99994) + " 22"
        self.assertEqual(len(long), 200000 - 1)
        self.both_ways((("change", 0, (1,) * 99994, 222, None),), long + "2")
        self.refuses(BadText, 0, read_story, long + "22")
        # It may be told, but not read.
        self.refuses(BadText, 0, read_story, story_text((("change", 0, (1,) * 99994, 2222, None),)))

    def test_spoilt_texts(self):
        right = 0
        for seed in range(60):
            chance = Random(seed)
            events = [chance.choice(RIGHT) for _ in range(chance.randint(0, 6))]
            text = story_text(tuple(events)).replace(str(LARGE), "12")
            self.assertTrue(self.beside(text))
            for _ in range(40):
                right += self.beside(spoilt(chance, text, ("letters", "none", "cut", "begin", "change", "share", "\nknown 0")))
        self.assertGreater(right, 200)

    def test_calls(self):
        self.tells("share 0", story_text, story=(("share", 0),))
        self.tells((("share", 0),), read_story, text="share 0")


if __name__ == "__main__":
    unittest.main()
