"""Words, numbers and lines, [67], and nets as texts, [68]."""

import unittest
from itertools import combinations
from random import Random

from fifthhost import errors
from fifthhost.errors import BadText, TooMany, WrongLine
from fifthhost.nets import is_net
from fifthhost.nettexts import net_text, read_net
from tests.common import (BARE_40, EMPTY, FULL_40, LARGE_40, NET_ERRORS, R, RING_40, S, TEN, Case, linked_net, some_nets)
from tests.textsets import FORTY, NO_NUMBERS, NO_TEXTS, is_number, spoilt, wrong_at

THREE = "need 1\nhost 0 votes 1\nhost 1 votes 1\nhost 2 votes 1\n"


def slow_read(text):
    """The net of a text, or the pair of its first wrong line and word, by the words of [68]."""
    need, votes, links = None, [], []
    for index, line in enumerate(text.split("\n")):
        words = line.split(" ")
        many, last = len(votes), links[-1] if links else None
        if index == 0:
            rules = ("need", lambda word: is_number(word, 1))
        elif words[0] == "host" and not links:
            rules = ("host", lambda word: many < 40 and word == str(many), "votes", is_number)
        else:
            rules = ("link", lambda word: is_number(word, 0, many) and (last is None or int(word) >= last[0]),
                     lambda word: is_number(word, 0, many) and int(word) > int(words[1])
                     and (last is None or int(words[1]) > last[0] or int(word) > last[1]))
        wrong = wrong_at(words, rules)
        if wrong is not None:
            return (index, wrong)
        if index == 0:
            need = int(words[1])
        elif words[0] == "host":
            votes.append(int(words[3]))
        else:
            links.append((int(words[1]), int(words[2])))
    return (tuple(votes), tuple(links), need)


class NetTexts(Case):

    def both_ways(self, net, text):
        self.tells(text, net_text, net)
        self.tells(net, read_net, text)

    def wrong(self, text, pair):
        self.refuses(WrongLine, pair, read_net, text)

    def test_examples(self):
        self.both_ways(((1, 3), ((0, 1),), 2), "need 2\nhost 0 votes 1\nhost 1 votes 3\nlink 0 1")
        self.both_ways(EMPTY, "need 1")
        for text, pair in (("", (0, 0)), ("need", (0, 1)), ("need 0", (0, 1)), ("need 1 ", (0, 2)), ("need 1\n", (1, 0)),
                           ("need 1\nhost 1 votes 0", (1, 1)), ("need 1\nhost 0 vote 3", (1, 2)), ("need 1\nhost 0 votes", (1, 3))):
            self.wrong(text, pair)
        for text, pair in (("link 0", (4, 2)), ("link 0 3", (4, 2)), ("link 1 1", (4, 2)), ("link 2 1", (4, 2)),
                           ("link 3 1", (4, 1)), ("link 0 1 2", (4, 3)), ("link 0 2\nlink 0 1", (5, 2)),
                           ("link 1 2\nlink 0 2", (5, 1)), ("link 0 1\nhost 3 votes 1", (5, 0))):
            self.wrong(THREE + text, pair)

    def test_there_and_back(self):
        for net in (R, S, TEN, BARE_40, RING_40, FULL_40, linked_net(1, []), ((), (), 10 ** 40 - 1), *some_nets(3, 60)):
            text = net_text(net)
            self.tells(net, read_net, text)
            self.tells(text, net_text, read_net(text))
            self.assertEqual(slow_read(text), net)

    def test_each_line_lacking_a_word_or_with_a_word_more_or_wrong(self):
        text = "need 2\nhost 0 votes 1\nhost 1 votes 0\nhost 2 votes 5\nlink 0 1\nlink 0 2\nlink 1 2"
        lines = text.split("\n")
        for index, line in enumerate(lines):
            words = line.split(" ")

            def told(row):
                return "\n".join(lines[:index] + [" ".join(row)] + lines[index + 1:])

            for many in range(1, len(words)):
                self.wrong(told(words[:many]), (index, many))
            self.wrong(told([]), (index, 0))
            for more in ("", "0", words[-1], "\t", "votes"):
                self.wrong(told(words + [more]), (index, len(words)))
            for at in range(len(words)):
                for word in NO_NUMBERS + ("Need", "Host", "links", "vote", "-1"):
                    self.wrong(told(words[:at] + [word] + words[at + 1:]), (index, at))
                # Two blanks side by side have an empty word between them.
                self.wrong(told(words[:at] + [""] + words[at:]), (index, at))

    def test_links_out_of_order_twice_and_turned_about(self):
        for links, pair in (("link 0 1\nlink 0 1", (5, 2)), ("link 1 0", (4, 2)), ("link 0 2\nlink 1 2\nlink 1 2", (6, 2)),
                            ("link 1 2\nlink 0 1", (5, 1)), ("link 2 0", (4, 2)), ("link 0 1\nlink 2 2", (5, 2)),
                            ("link 1 2\nlink 1 2", (5, 2)), ("link 0 2\nlink 0 0", (5, 2)), ("link 0 1\n", (5, 0)),
                            ("link 0 1\nneed 1", (5, 0)), ("need 1", (4, 0)), ("link 0 1\nhost", (5, 0))):
            self.wrong(THREE + links, pair)

    def test_forty_hosts_and_one_more(self):
        text = "need 1" + "".join(f"\nhost {x} votes 0" for x in range(40))
        self.both_ways(((0,) * 40, (), 1), text)
        for line in ("host 40 votes 0", "host 39 votes 0", "host", "host 0 votes 0", "host 41"):
            self.wrong(text + "\n" + line, (41, 1))
        self.wrong(text + "\nhosts 40 votes 0", (41, 0))
        self.wrong(text + "\nlink 39 40", (41, 2))
        self.tells(((0,) * 40, ((38, 39),), 1), read_net, text + "\nlink 38 39")

    def test_numbers_of_forty_and_of_more_figures(self):
        for word in ("0", "7", "10", "999", FORTY, "1" + "0" * 39):
            self.both_ways(((int(word),), (), 1), f"need 1\nhost 0 votes {word}")
            if word != "0":
                self.both_ways(((), (), int(word)), f"need {word}")
        for word in NO_NUMBERS + ("0",):
            self.wrong(f"need {word}", (0, 1))
            if word != "0":
                self.wrong(f"need 1\nhost 0 votes {word}", (1, 3))
        # More figures are told, but not read.
        self.tells("need 1" + "0" * 40, net_text, ((), (), 10 ** 40))
        self.wrong(net_text(LARGE_40), (0, 1))

    def test_four_thousand_figures_and_one_more(self):
        large = 10 ** 4000
        for net in (((large - 1,), (), 1), ((), (), large - 1)):
            self.assertIn("9" * 4000, net_text(net))
        for net in (((large,), (), 1), ((), (), large), ((0, large - 1, large), (), 1), ((10 ** 4199,), (), 10 ** 4199)):
            self.refuses(TooMany, 4000, net_text, net)

    def test_tabs_carriage_returns_and_other_ends_of_lines(self):
        for text, pair in (("need\t1", (0, 0)), ("need 1\r\nhost 0 votes 1", (0, 1)), ("need 1\rhost 0 votes 1", (0, 1)),
                           ("need 1\x0bhost 0 votes 1", (0, 1)), ("need 1\x0c", (0, 1)), ("need 1\u2028", (0, 1)),
                           ("need 1\x85host 0 votes 1", (0, 1)), ("need\u00a01", (0, 0)), (" need 1", (0, 0)), ("\nneed 1", (0, 0)),
                           ("need  1", (0, 1)), ("need 1\n\n", (1, 0)), ("need 1\nhost 0 votes 1\t", (1, 3))):
            self.wrong(text, pair)

    def test_what_is_no_text(self):
        for text in NO_TEXTS:
            self.refuses(BadText, 0, read_net, text)
        self.wrong("need 1 " + "x" * (200000 - 7), (0, 2))
        self.wrong("need 1" + "\n" * (200000 - 6), (1, 0))
        self.refuses(BadText, 0, read_net, "need 1" + "\n" * (200001 - 6))
        self.wrong("need " + "1" * 199995, (0, 1))

    def test_spoilt_texts_beside_the_words_of_the_document(self):
        right = 0
        for seed, net in enumerate(list(some_nets(11, 40, (0, 1, 3, 5))) + [R, TEN, RING_40]):
            chance = Random(seed)
            for _ in range(40):
                text = spoilt(chance, net_text(net), ("host", "link", "votes", "need", "3"))
                wanted = slow_read(text)
                if is_net(wanted):
                    self.tells(wanted, read_net, text)
                    self.tells(text, net_text, wanted)
                    right += 1
                else:
                    self.wrong(text, wanted)
        self.assertGreater(right, 60)

    def test_wrong_nets(self):
        for net, error, what in NET_ERRORS:
            self.refuses(getattr(errors, error), what, net_text, net)
        self.tells("need 1", net_text, net=EMPTY)
        self.tells(EMPTY, read_net, text="need 1")
        self.tells(linked_net(3, combinations(range(3), 2)), read_net, THREE + "link 0 1\nlink 0 2\nlink 1 2")


if __name__ == "__main__":
    unittest.main()
