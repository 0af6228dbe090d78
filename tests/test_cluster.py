"""Hosts, disks and links, [44], editions that come to a part, [45], and what each method refuses."""

import unittest
from itertools import combinations
from random import Random

from fifthhost import errors
from fifthhost.cluster import Cluster
from fifthhost.errors import (Already, BadEdition, BadHost, BadKey, BadLetters, BadName, BadNeed, BadNumber, BadPlace,
                              BadRestores, BadRule, BadValue, BadVotes, Blank, Down, NoLetter, NoLink, NotBlank,
                              NotCommanding, NotDown, NotLet, NotOpen, NotSealed, NotWorking, TooMany, Unruled)
from tests.clustersets import FOUR, LINE, NETS, Twins, questions, some_deed
from tests.common import (BROAD, DEEP, EMPTY, FULL_40, LARGE, NAN, NET_ERRORS, NO_NUMBERS, R, RING_40, Case, alike, chained,
                          frozen, full_net, hubs_net, linked_net)
from tests.rulesets import RING_RULE, ZERO

NO_HOSTS = NO_NUMBERS + ("0", [], [0], -1, 5, LARGE, -LARGE)
NO_NAMES = (True, None, 0, 1.0, "", "01", [], [0, 0], (), (0,), (0, 0, 0), (0, -1), (-1, 0), (True, 0), (0, False), (0, 1.0),
            (0, None), ("0", "0"), ((0,), 0), (NAN, 0), BROAD, DEEP)
METHODS = {
    "cut": "a b", "mend": "a b", "down": "x", "up": "x", "wipe": "x", "parts": "", "part": "x", "state": "x",
    "link": "a b", "edition": "x", "cell": "x name", "heard": "x", "begin": "x letters", "put": "x key value letters",
    "share": "x", "read": "x name", "known": "x", "show": "x key", "final": "name number place", "record": "",
    "change": "x votes need letters", "book": "x e", "editions": "", "sealed": "e", "ends": "e", "restore": "x y",
    "letters": "x", "forget": "x",
}


class Parts(Case):

    def test_at_first(self):
        for net in NETS + (EMPTY, linked_net(3, [])):
            twins = Twins(self, net)
            twins.same()
            self.tells(((net[0], net[2]),), twins.one.editions)
            self.tells((), twins.one.record)
            for x in range(len(net[0])):
                self.tells(("up", "written"), twins.one.state, x)
                self.tells((0, 0, (), (), 0), twins.one.cell, x, (LARGE, 3))
                self.tells((0, 0, None), twins.one.book, x, LARGE)
                for word in ("heard", "letters", "known"):
                    self.tells((), getattr(twins.one, word), x)
            for a, b in net[1]:
                self.tells("whole", twins.one.link, b, a)

    def test_cuts_and_mends_of_each_link(self):
        for net in NETS:
            twins = Twins(self, net)
            for row, word, told in ((net[1], "cut", "broken"), (net[1][::-1], "mend", "whole")):
                for a, b in row:
                    twins.do(word, b, a)
                    self.tells(told, twins.one.link, a, b)
                    self.refuses(Already, (a, b), getattr(twins.one, word), a, b)
                    twins.ask(word, b, a)
                    twins.ask("parts")
                    for x in range(len(net[0])):
                        twins.ask("part", x)

    def test_hosts_down_up_and_wiped_in_drawn_orders(self):
        for seed, net in enumerate(NETS * 3):
            chance = Random(seed)
            twins = Twins(self, net)
            for _ in range(40):
                word = chance.choice(("cut", "mend", "down", "up", "wipe"))
                twins.ask(word, *(chance.choice(net[1]) if word in ("cut", "mend") else [chance.randrange(len(net[0]))]))
                twins.ask("parts")
                for x in range(len(net[0])):
                    twins.ask("part", x)
                    twins.ask("state", x)

    def test_a_link_that_the_net_lacks(self):
        c = Cluster(R, RING_RULE)
        for a, b, what in ((0, 2, (0, 2)), (3, 1, (1, 3)), (2, 2, (2, 2)), (0, 0, (0, 0))):
            for method in (c.cut, c.mend, c.link):
                self.refuses(NoLink, what, method, a, b)
        self.tells(((0, 1, 2, 3, 4),), c.parts)

    def test_parts_run_over_links_with_hosts_at_both_ends(self):
        c = Cluster(((0, 1, 1, 1), LINE[1], 2), ZERO)
        c.down(1)
        self.tells(((0,), (2, 3)), c.parts)
        c.wipe(1)
        c.up(1)
        self.tells(("up", "blank"), c.state, 1)
        self.tells(((0,), (2, 3)), c.parts)
        self.tells("whole", c.link, 0, 1)
        c.restore(1, 2)
        self.tells(((0, 1, 2, 3),), c.parts)

    def test_a_disk_behind_down_and_up_and_behind_a_wipe(self):
        twins = Twins(self, FOUR)
        for word, *args in (("begin", 0), ("put", 0, 5, 7), ("change", 0, (1, 1, 1, 1), 3), ("begin", 1), ("put", 1, 5, 8)):
            twins.do(word, *args)
        c = twins.one
        held = [c.cell(2, (0, 0)), c.cell(2, (1, 0)), c.heard(2), c.letters(2), c.book(2, 0), c.edition(2)]
        self.assertEqual((len(held[3]), held[5]), (13, 1))
        twins.do("down", 2)
        for _ in range(2):
            self.assertEqual(held, [c.cell(2, (0, 0)), c.cell(2, (1, 0)), c.heard(2), c.letters(2), c.book(2, 0), c.edition(2)])
            twins.same()
            twins.ask("up", 2)
        twins.do("down", 2)
        twins.do("wipe", 2)
        for state in ("down", "up"):
            self.tells((state, "blank"), c.state, 2)
            for method, *args in ((c.cell, (0, 0)), (c.heard,), (c.letters,), (c.book, 0), (c.edition,)):
                self.refuses(Blank, 2, method, 2, *args)
            twins.same()
            twins.ask("up", 2)
        self.refuses(Blank, 2, c.part, 2)
        twins.do("restore", 2, 0)
        twins.same()

    def test_a_net_without_hosts(self):
        c = Cluster(((), (), 1), ZERO)
        self.tells((), c.parts)
        self.tells((((), 1),), c.editions)
        self.tells(True, c.sealed, 0)
        self.tells((), c.ends, 0)
        self.tells(True, c.final, (0, 0), 1, 0)
        self.tells((), c.record)
        self.refuses(BadHost, 0, c.part, 0)


class Editions(Case):

    def test_by_each_deed(self):
        # The host 0 alone comes to know edition 1, as the last letters of the change do not come.
        deeds = (("begin", 3), ("share", 2), ("change", 1, (2, 1, 1, 1), 3), ("begin", 3, 0), ("change", 2, (1, 1, 1, 1), 2, 0))
        for word, *args in deeds:
            twins = Twins(self, FOUR)
            twins.do("begin", 0)
            twins.do("put", 0, 5, 7)
            self.assertEqual(twins.do("change", 0, (1, 1, 1, 1), 4, 9), (1, (1, 1, 1, 1), 4))
            self.assertEqual([twins.one.edition(x) for x in range(4)], [1, 0, 0, 0])
            twins.do(word, *args)
            more = word == "change" and len(args) == 3
            self.assertEqual([twins.one.edition(x) for x in range(4)], [1 + more] * 4)
            for x in range(1, 4):
                self.assertIn(("hear", ((0, 0, 1, 1),)), twins.one.letters(x))
            twins.same()

    def test_by_a_restore(self):
        twins = Twins(self, FOUR)
        twins.do("begin", 0)
        twins.do("put", 0, 5, 7)
        twins.do("change", 0, (1, 1, 1, 0), 2, 9)
        twins.do("change", 0, (2, 1, 1, 0), 2, 9)
        self.assertEqual([twins.one.edition(x) for x in range(4)], [2, 1, 1, 1])
        for word in ("down", "wipe", "up"):
            twins.do(word, 3)
        self.tells(None, twins.one.restore, 3, 1)
        twins.two.restore(3, 1)
        twins.same()
        self.assertEqual([twins.one.edition(x) for x in range(4)], [2, 2, 2, 2])
        # What the editions tell is heard ahead of the copy, and the other hosts hear just what they did not know.
        words = [[letter[0] for letter in twins.one.letters(x)] for x in range(4)]
        self.assertEqual(words[3], ["hear", "hear", "copy"])
        self.assertEqual([row.count("hear") for row in words], [2, 2, 2, 2])

    def test_a_refused_deed_brings_none(self):
        twins = Twins(self, FOUR)
        twins.do("change", 0, (1, 1, 1, 1), 4, 9)
        for x in (0, 1, 2):
            twins.do("cut", x, 3)
        self.refuses(NotWorking, (0, 1, 2), twins.one.begin, 1)
        self.refuses(NotWorking, (0, 1, 2), twins.one.put, 1, 5, 5)
        self.refuses(NotCommanding, (0, 1, 2), twins.one.change, 1, (1, 1, 1, 1), 2)
        self.refuses(NotWorking, (3,), twins.one.begin, 3)
        twins.do("mend", 0, 3)
        self.refuses(BadLetters, 13, twins.one.begin, 1, 13)
        self.refuses(NotOpen, (1, 0), twins.one.put, 1, 5, 5)
        self.refuses(BadLetters, -1, twins.one.change, 1, (1, 1, 1, 1), 2, -1)
        twins.same()
        self.assertEqual([twins.one.edition(x) for x in range(4)], [1, 0, 0, 0])
        self.assertEqual([len(twins.one.letters(x)) for x in range(4)], [1, 0, 0, 0])

    def test_the_part_works_by_its_own_edition(self):
        twins = Twins(self, FOUR)
        for x in (0, 1, 2):
            twins.do("cut", x, 3)
        # Three of four hosts command with the need 2; by the next edition two of them work, and 3 still goes by the elder.
        twins.do("change", 0, (1, 1, 0, 0), 2)
        self.assertEqual([twins.one.edition(x) for x in range(4)], [1, 1, 1, 0])
        twins.do("cut", 0, 2)
        twins.do("cut", 1, 2)
        twins.do("mend", 2, 3)
        self.refuses(NotWorking, (2, 3), twins.one.begin, 3)
        self.tells(1, twins.one.begin, 0)
        self.tells(0, twins.one.edition, 3)


class Refusals(Case):

    def cluster(self):
        """A ring of five of which 4 is down, 3 is blank and down, and 2 is blank; 0 and 1 have an open log."""
        c = Cluster(R, RING_RULE)
        c.begin(0)
        for x in (4, 3, 2):
            c.down(x)
        c.wipe(3)
        c.wipe(2)
        c.up(2)
        c.begin(0)
        return c

    def test_by_position_and_by_name(self):
        self.refuses(NotBlank, 2, Cluster(R, restores=((2, (1,)),), rule=RING_RULE).restore, 2, 1)
        c = Cluster(net=R, rule=RING_RULE)
        self.tells(1, c.begin, letters=None, x=0)
        self.tells(0, c.put, 0, value=7, key=5, letters=15)
        self.tells(None, c.share, x=1)
        self.tells((((1, 5, 7, ()),), 1), c.read, name=(0, 0), x=4)
        self.tells((1, 1, (0, 1, 2, 3, 4), ((1, 5, 7, ()),), 1), c.cell, name=(0, 0), x=2)
        self.tells(((0, 0, 0, 1, 7),), c.show, key=5, x=1)
        self.tells(True, c.final, place=0, name=(0, 0), number=1)
        self.tells((1, (1,) * 5, 3), c.change, 0, need=3, votes=(1,) * 5, letters=14)
        self.tells((1, 1, ((1,) * 5, 3, ((0, 0, 1, 1),))), c.book, e=0, x=1)
        self.tells(True, c.sealed, e=0)
        self.tells(((0, 1, 1),), c.ends, e=0)
        for method, word in ((c.down, "down"), (c.wipe, "down"), (c.up, "up")):
            self.tells(None, method, x=2)
            self.tells((word, "written" if method == c.down else "blank"), c.state, x=2)
        self.tells(None, c.restore, y=1, x=2)
        self.tells(None, c.cut, b=0, a=1)
        self.tells("broken", c.link, b=0, a=1)
        self.tells(None, c.mend, b=0, a=1)
        self.tells(c.part(0), c.part, x=0)
        self.tells(c.known(0), c.known, x=0)
        self.tells(c.heard(0), c.heard, x=0)
        self.tells(c.letters(2), c.letters, x=2)
        self.tells(1, c.edition, x=2)
        c.down(2)
        self.tells("copy", c.forget, x=2)

    def test_the_methods_stand_in_the_class_itself(self):
        for name in ("__init__", *METHODS):
            self.assertIn(name, vars(Cluster))
        self.assertEqual((Cluster.__module__, Cluster.__bases__), ("fifthhost.cluster", (object,)))

    def test_the_names_of_the_arguments(self):
        for name, words in METHODS.items():
            code = vars(Cluster)[name].__code__
            self.assertEqual(" ".join(code.co_varnames[1:code.co_argcount]), words, name)
            defaults = vars(Cluster)[name].__defaults__
            self.assertEqual(defaults, (None,) if words.endswith("letters") else None, name)

    def test_wrong_clusters(self):
        for net, error, what in NET_ERRORS:
            self.refuses(getattr(errors, error), what, Cluster, net, None, None)
            self.refuses(getattr(errors, error), what, Cluster, net, ("one", -1), [])
        for rule, what in ((None, ()), (("one", 1000), ()), (["one", 0], ()), (("has", 0, 0, ("one",)), (3,)),
                           (("has", 5, 0, ZERO), ())):
            self.refuses(BadRule, what, Cluster, R, rule)
            self.refuses(BadRule, what, Cluster, R, rule, [])
        for restores, what in (([], -1), (0, -1), ("", -1), (False, -1), ((None,), 0), (((2, (1,)), (2, (2,))), 1),
                               (((2, (4,)),), 0)):
            self.refuses(BadRestores, what, Cluster, R, ZERO, restores)
        self.refuses(TooMany, 201, Cluster, R, ZERO, ((2, (1,)),) * 201)
        Cluster(R, ZERO, ((2, (1,)),) * 200)

    def test_wrong_hosts(self):
        c = self.cluster()
        for x in NO_HOSTS:
            for name, words in METHODS.items():
                if words.startswith("x"):
                    args = [x] + [None] * (len(words.split()) - 1)
                    self.refuses(BadHost, x, getattr(c, name), *args)
                elif words.startswith("a"):
                    self.refuses(BadHost, x, getattr(c, name), x, x)
                    self.refuses(BadHost, x, getattr(c, name), 0, x)
                    self.refuses(BadHost, 5, getattr(c, name), 5, x)
            self.refuses(BadHost, x, c.restore, 2, x)

    def test_down_ahead_of_blank_ahead_of_all_else(self):
        c = self.cluster()
        for x, error in ((4, Down), (3, Down), (2, Blank)):
            for name in ("part", "begin", "put", "share", "read", "known", "show", "change"):
                args = [x] + [None] * (len([word for word in METHODS[name].split() if word != "letters"]) - 1)
                self.refuses(error, x, getattr(c, name), *args)
        for x, error in ((3, Blank), (2, Blank)):
            for name, *args in (("edition",), ("cell", None), ("heard",), ("book", None), ("letters",)):
                self.refuses(error, x, getattr(c, name), x, *args)

    def test_what_deeds_refuse_of_hosts(self):
        c = self.cluster()
        for x in (0, 1, 2):
            self.refuses(Already, x, c.up, x)
            self.refuses(NotDown, x, c.wipe, x)
            self.refuses(NotDown, x, c.forget, x)
        for x in (3, 4):
            self.refuses(Already, x, c.down, x)
        self.refuses(Already, 3, c.wipe, 3)
        self.refuses(Blank, 3, c.forget, 3)
        for word in ("promise", "take", "sure")[::-1]:
            self.tells(word, c.forget, 4)
        self.refuses(NoLetter, 4, c.forget, 4)

    def test_restore_asks_one_thing_behind_another(self):
        c = self.cluster()
        self.refuses(Down, 3, c.restore, 3, None)
        self.refuses(Down, 4, c.restore, 4, 9)
        self.refuses(NotBlank, 0, c.restore, 0, None)
        self.refuses(BadHost, None, c.restore, 2, None)
        self.refuses(Down, 3, c.restore, 2, 3)
        self.refuses(Down, 4, c.restore, 2, 4)
        self.refuses(Blank, 2, c.restore, 2, 2)
        self.refuses(NoLink, (0, 2), c.restore, 2, 0)
        c.cut(1, 2)
        self.refuses(NoLink, (1, 2), c.restore, 2, 1)
        c.mend(2, 1)
        c.cut(0, 1)
        self.refuses(NotWorking, (1,), c.restore, 2, 1)
        self.tells(("up", "blank"), c.state, 2)

    def test_names_keys_numbers_and_places(self):
        c = self.cluster()
        for name in NO_NAMES:
            self.refuses(BadName, name, c.cell, 0, name)
            self.refuses(BadName, name, c.read, 0, name)
            self.refuses(BadName, name, c.final, name, None, None)
        for thing in NO_NUMBERS + ("0", [], [0], -LARGE):
            for wrong in (thing, -1, 0):
                self.refuses(BadNumber, wrong, c.final, (0, 0), wrong, thing)
            for wrong in (thing, -1):
                self.refuses(BadPlace, wrong, c.final, (0, 0), 1, wrong)
                self.refuses(BadEdition, wrong, c.book, 0, wrong)
            for wrong in (thing, -1, 1, LARGE):
                self.refuses(BadEdition, wrong, c.sealed, wrong)
                self.refuses(BadEdition, wrong, c.ends, wrong)
            for wrong in (thing, -1, 1000, LARGE):
                self.refuses(BadKey, wrong, c.put, 0, wrong, None, -1)
                self.refuses(BadKey, wrong, c.show, 0, wrong)
        for value in NO_NUMBERS + ("0", [], [0]):
            self.refuses(BadValue, value, c.put, 0, 999, value, -1)
        self.refuses(NotSealed, 0, c.ends, 0)

    def test_letters_are_asked_last(self):
        c = self.cluster()
        for letters in [thing for thing in NO_NUMBERS if thing is not None] + ["0", [], -1, 7, LARGE, -LARGE]:
            self.refuses(BadLetters, letters, c.begin, 0, letters)
            self.refuses(BadLetters, letters, c.put, 0, 5, 7, letters)
            self.refuses(NotCommanding, (0, 1), c.change, 0, (1,) * 5, 2, letters)
        # The part (0, 1) of five has the need, but so have the three others.
        self.tells(0, c.put, 0, 5, 7)
        for letters in (16, -1, True, 1.0):
            self.refuses(BadLetters, letters, Cluster(R, RING_RULE).change, 0, (1,) * 5, 2, letters)
            self.refuses(NotOpen, (0, 0), Cluster(R, RING_RULE).put, 0, 5, 5, letters)

    def test_parts_that_do_not_work_or_are_unruled(self):
        c = Cluster(R, ("table", (((0, 1, 2, 3, 4), 6),)))
        self.tells(1, c.begin, 0)
        c.cut(0, 1)
        c.cut(2, 3)
        for x in (1, 2):
            self.refuses(Unruled, (1, 2), c.begin, x, -1)
            self.refuses(Unruled, (1, 2), c.put, x, 5, 5, -1)
            self.refuses(BadKey, 1000, c.put, x, 1000, None, -1)
            self.refuses(BadValue, None, c.put, x, 999, None, -1)
        c.cut(1, 2)
        self.refuses(NotWorking, (1,), c.begin, 1, -1)
        self.refuses(NotWorking, (1,), c.put, 1, 5, 5, -1)
        self.refuses(BadLetters, -1, Cluster(R, ZERO).begin, 0, -1)

    def test_votes_and_needs_of_a_change(self):
        c = self.cluster()
        for votes in (None, 5, "11111", [1] * 5, (1,) * 4, (1,) * 6, (), BROAD):
            self.refuses(BadVotes, -1, c.change, 0, votes, None, -1)
        for place in range(5):
            for wrong in NO_NUMBERS + (-1, -LARGE):
                votes = (1,) * place + (wrong,) * (5 - place)
                self.refuses(BadVotes, place, c.change, 0, votes, None, -1)
        for need in NO_NUMBERS + (0, -1, -LARGE):
            self.refuses(BadNeed, need, c.change, 0, (1,) * 5, need, -1)
        self.refuses(NotCommanding, (0, 1), c.change, 0, (LARGE,) * 5, LARGE, -1)

    def test_too_many_as_logs(self):
        for net, hosts in ((full_net(8), 8), (FULL_40, 40), (hubs_net(15), 15), (chained([full_net(9), full_net(8)]), 8)):
            c = Cluster(net, ZERO)
            many = len(net[0])
            self.refuses(TooMany, hosts, c.change, 0, (1,) * many, 99, -1)
            self.refuses(BadNeed, 0, c.change, 0, (1,) * many, 0, -1)
            for a, b in net[1]:
                c.cut(a, b)
            self.refuses(TooMany, hosts, c.change, 0, (1,) * many, 99)
            self.refuses(BadVotes, 0, c.change, 0, (-1,) * many, 99)
        c = Cluster(RING_40, ZERO)
        self.tells((1, (2,) * 40, 41), c.change, 0, (2,) * 40, 41)

    def test_a_call_that_raises_changes_nothing(self):
        for seed in range(12):
            chance = Random(seed)
            net = chance.choice(NETS)
            twins = Twins(self, net)
            for _ in range(30):
                twins.ask(*some_deed(chance, twins.one))
            many = len(net[0])
            for word, words in METHODS.items():
                for _ in range(6):
                    args = [chance.choice((0, 1, many, -1, None, True, (0, 0), [0], 2.5)) for _ in words.split()]
                    try:
                        getattr(Cluster, word)(twins.one, *args)
                    except errors.Refused:
                        continue
                    if word in ("cut", "mend", "down", "up", "wipe", "begin", "put", "share", "change", "restore", "forget"):
                        getattr(twins.two, word)(*args)
            twins.same_disks()
            twins.same()


class Objects(Case):

    def test_two_clusters_of_one_net_and_rule(self):
        for seed in range(8):
            chance = Random(seed)
            net = chance.choice(NETS)
            one, two = Twins(self, net), Twins(self, net)
            for _ in range(40):
                twins = chance.choice((one, two))
                twins.ask(*some_deed(chance, twins.one))
            one.same()
            two.same()

    def test_equal_calls_tell_the_same_and_change_nothing(self):
        for seed in range(6):
            chance = Random(seed)
            twins = Twins(self, NETS[seed])
            for _ in range(40):
                twins.ask(*some_deed(chance, twins.one))
            rows = list(questions(twins.net, 2, 2))
            told = [twins.ask(word, *args) for word, args in rows]
            chance.shuffle(rows)
            for word, args in rows:
                twins.ask(word, *args)
            self.assertTrue(alike(told, [twins.ask(word, *args) for word, args in questions(twins.net, 2, 2)]))

    def test_what_is_handed_in_stays_as_it_was(self):
        args = (R, RING_RULE, ((2, (1,)), (0, (1, 2))))
        ahead = frozen(args)
        c = Cluster(*args)
        c.begin(0)
        c.put(0, 5, 7)
        for votes in ((1,) * 5, [1] * 5):
            kept = frozen(votes)
            try:
                c.change(0, votes, 2)
            except errors.Refused:
                pass
            self.assertTrue(alike(votes, kept))
        for deed in (c.down, c.wipe, c.up):
            deed(2)
        self.refuses(NotLet, (2, (0, 1, 3, 4)), c.restore, 2, 1)
        c.cut(0, 1)
        self.tells(None, c.restore, 2, 1)
        self.assertTrue(alike(args, ahead))

    def test_votes_of_any_size(self):
        votes = tuple(LARGE + x for x in range(5))
        twins = Twins(self, (votes, R[1], 2 * LARGE))
        for word, *args in (("begin", 0), ("put", 0, 5, -LARGE), ("change", 3, votes[::-1], 3 * LARGE, 13), ("begin", 4),
                            ("put", 4, 5, LARGE)):
            twins.do(word, *args)
        twins.same()

    def test_forty_hosts(self):
        twins = Twins(self, linked_net(40, combinations(range(40), 2), need=20), ZERO)
        c = twins.one
        for x in range(39):
            c.cut(x, 39)
        self.tells((tuple(range(39)), (39,)), c.parts)
        self.tells(1, c.begin, 7)
        self.tells(0, c.put, 8, 5, 7, 78)
        self.refuses(NotWorking, (39,), c.begin, 39)


if __name__ == "__main__":
    unittest.main()
