"""Votes changed, [54], and blank disks restored, [55]."""

import unittest
from itertools import combinations
from random import Random

from fifthhost.cluster import Cluster
from fifthhost.errors import Harmful, NotCommanding, NotLet, NotOpen, NotSealed, NotSettled, NotWorking
from tests.clustersets import FOUR, LINE, NETS, Twins, some_deed
from tests.common import LARGE, R, TRIANGLES, Case, full_net, linked_net, slow_hangs
from tests.rulesets import RING_RULE, ZERO

ONES = (1, 1, 1, 1)


class Changes(Case):

    def test_example(self):
        twins = Twins(self, R, RING_RULE)
        c = twins.one
        for pair in ((1, 2), (3, 4), (0, 4)):
            twins.do("cut", *pair)
        for word, *args in (("begin", 0), ("begin", 2), ("put", 0, 5, 7), ("put", 2, 5, 8), ("mend", 3, 4), ("cut", 2, 3),
                            ("begin", 3), ("put", 3, 5, 9), ("mend", 1, 2), ("mend", 2, 3), ("mend", 0, 4), ("share", 0)):
            twins.do(word, *args)
        self.tells((1, (1, 1, 1, 1, 1), 3), c.change, 0, (1, 1, 1, 1, 1), 3)
        twins.two.change(0, (1, 1, 1, 1, 1), 3)
        self.tells(True, c.sealed, 0)
        self.tells(((0, 1, 1), (1, 2, 2)), c.ends, 0)
        self.tells(((R[0], 2), (R[0], 3)), c.editions)
        twins.same()

    def test_each_number_of_letters(self):
        for letters in (None, *range(13)):
            twins = Twins(self, FOUR)
            c = twins.one
            twins.do("begin", 1)
            twins.do("put", 1, 5, 7)
            came = 12 if letters is None else letters
            told = twins.do("change", 2, (3, 1, 0, 0), 3, letters)
            self.assertEqual(told, (1, (3, 1, 0, 0), 3) if came >= 8 else None)
            new = ((3, 1, 0, 0), 3, ((0, 0, 1, 1),))
            for x in range(4):
                got = sum(turn * 4 + x < came for turn in range(3))
                self.tells(((0, 0, None), (1, 0, None), (1, 1, new), (1, 1, new))[got], c.book, x, 0)
                self.tells(1 if got == 3 else 0, c.edition, x)
                self.tells((("hear", ((0, 0, 1, 1),)),) if got == 3 else (), lambda y: c.letters(y)[6:], x)
            self.tells(((ONES, 2), ((3, 1, 0, 0), 3))[:1 + (came > 8)], c.editions)
            twins.same()

    def test_parts_that_do_not_command(self):
        twins = Twins(self, FOUR)
        c = twins.one
        for pair in ((0, 2), (0, 3), (1, 2), (1, 3)):
            twins.do("cut", *pair)
        # Both halves work, so neither commands; each by itself does not work where 3 is alone.
        for x, lot in ((0, (0, 1)), (3, (2, 3))):
            self.tells(1, c.begin, x)
            self.refuses(NotCommanding, lot, c.change, x, ONES, 2)
        twins.two.begin(0)
        twins.two.begin(3)
        twins.do("mend", 1, 2)
        twins.do("cut", 2, 3)
        self.refuses(NotCommanding, (3,), c.change, 3, ONES, 2)
        twins.do("down", 3)
        self.assertEqual(twins.do("change", 2, ONES, 3), (1, ONES, 3))
        twins.same()

    def test_broken_links_do_not_keep_others_from_working(self):
        # The hosts 2, 3 and 4 of the ring could work, though their links are broken and they are down.
        c = Cluster(R, RING_RULE)
        for pair in ((1, 2), (2, 3), (3, 4), (0, 4)):
            c.cut(*pair)
        for x in (2, 3, 4):
            c.down(x)
        self.refuses(NotCommanding, (0, 1), c.change, 0, R[0], 2)
        c.mend(1, 2)
        c.up(2)
        self.refuses(NotCommanding, (0, 1, 2), c.change, 0, R[0], 2)
        c.mend(2, 3)
        c.up(3)
        self.tells((1, R[0], 2), c.change, 0, R[0], 2)

    def test_a_book_taken_over_from_a_change_that_was_cut_off(self):
        twins = Twins(self, FOUR)
        c = twins.one
        twins.do("begin", 0)
        twins.do("put", 0, 5, 7)
        # 0 and 1 have the proposal of number 1, nobody knows it as decided.
        self.assertIsNone(twins.do("change", 0, (9, 0, 0, 0), 9, 6))
        twins.do("put", 0, 5, 8)
        self.assertEqual(twins.do("change", 3, ONES, 4), (1, (9, 0, 0, 0), 9))
        # Its knows are the greater ones of those of the book and of what is heard now.
        self.tells((2, 2, ((9, 0, 0, 0), 9, ((0, 0, 1, 2),))), c.book, 3, 0)
        self.tells(((0, 0, 1, 2),), c.heard, 2)
        twins.same()

    def test_knows_of_a_book_that_the_part_has_not_heard(self):
        twins = Twins(self, full_net(4, 3))
        c = twins.one
        twins.do("begin", 0)
        twins.do("put", 0, 5, 7, 1)
        self.tells(((0, 0, 1, 1),), c.heard, 0)
        # 0 and 1 get the proposal with what 0 alone has heard; then 0 is out.
        self.assertIsNone(twins.do("change", 0, (2, 2, 2, 2), 6, 6))
        for x in (1, 2, 3):
            twins.do("cut", 0, x)
        self.tells((), c.known, 1)
        self.assertEqual(twins.do("change", 3, ONES, 3), (1, (2, 2, 2, 2), 6))
        for x in (1, 2, 3):
            self.tells(((0, 0, 1, 1),), c.heard, x)
            self.tells(("hear", ((0, 0, 1, 1),)), lambda y: c.letters(y)[-1], x)
        twins.same()

    def test_the_book_of_the_greatest_taken(self):
        twins = Twins(self, FOUR)
        c = twins.one
        self.assertIsNone(twins.do("change", 0, (1, 0, 0, 0), 1, 5))
        # 0 has the proposal of number 1; without it the others make one of number 2.
        for x in (1, 2, 3):
            twins.do("cut", 0, x)
        self.assertIsNone(twins.do("change", 1, (2, 0, 0, 0), 2, 5))
        self.assertEqual([c.book(x, 0) for x in range(4)],
                         [(1, 1, ((1, 0, 0, 0), 1, ())), (2, 2, ((2, 0, 0, 0), 2, ())),
                          (2, 2, ((2, 0, 0, 0), 2, ())), (2, 0, None)])
        twins.do("mend", 0, 3)
        twins.do("mend", 0, 1)
        self.assertEqual(twins.do("change", 3, ONES, 2), (1, (2, 0, 0, 0), 2))
        twins.same()

    def test_the_greatest_taken_and_not_the_greatest_promise(self):
        twins = Twins(self, FOUR)
        c = twins.one
        self.assertIsNone(twins.do("change", 0, (5, 0, 0, 0), 1, 5))
        for x in (1, 2, 3):
            twins.do("cut", 0, x)
        self.assertIsNone(twins.do("change", 1, (2, 0, 0, 0), 2, 5))
        for x in (1, 2, 3):
            twins.do("mend", 0, x)
        # The one letter that comes lets 0 promise more, though what it took is the elder proposal.
        self.assertIsNone(twins.do("change", 0, ONES, 2, 1))
        self.tells((3, 1, ((5, 0, 0, 0), 1, ())), c.book, 0, 0)
        self.tells((2, 2, ((2, 0, 0, 0), 2, ())), c.book, 1, 0)
        self.assertEqual(twins.do("change", 3, ONES, 2), (1, (2, 0, 0, 0), 2))
        twins.same()

    def test_no_votes_and_a_need_above_all(self):
        for votes, need in (((0, 0, 0, 0), 1), (ONES, 5), (ONES, LARGE)):
            twins = Twins(self, FOUR)
            c = twins.one
            self.assertEqual(twins.do("change", 0, votes, need), (1, votes, need))
            for x in range(4):
                self.refuses(NotWorking, (0, 1, 2, 3), c.begin, x)
                self.refuses(NotCommanding, (0, 1, 2, 3), c.change, x, ONES, 1)
            # By the last edition nobody can work, so both are sealed and all is final.
            self.tells(True, c.sealed, 0)
            self.tells(True, c.sealed, 1)
            self.tells(True, c.final, (9, 9), LARGE, LARGE)
            self.tells((), c.ends, 1)
            twins.same()

    def test_sealed_and_ends(self):
        twins = Twins(self, FOUR)
        c = twins.one
        twins.do("begin", 0)
        twins.do("put", 0, 5, 7)
        twins.do("put", 0, 5, 8)
        # 0 alone knows edition 1, then 0 and 1, then 0 to 2; two of four are enough to work.
        for letters, told in ((9, False), (10, False), (11, True), (12, True)):
            twins = Twins(self, FOUR)
            c = twins.one
            for word, *args in (("begin", 0), ("put", 0, 5, 7), ("put", 0, 5, 8), ("change", 0, ONES, 3, letters)):
                twins.do(word, *args)
            self.tells(told, c.sealed, 0)
            self.tells(False, c.sealed, 1)
            self.refuses(NotSealed, 1, c.ends, 1)
            if told:
                self.tells(((0, 1, 2),), c.ends, 0)
            else:
                self.refuses(NotSealed, 0, c.ends, 0)
            twins.same()
            # A wipe takes what was known of the edition.
            twins.do("down", 1)
            twins.do("wipe", 1)
            self.tells(letters == 12, c.sealed, 0)
            twins.same()

    def test_ends_by_hosts_that_know_more(self):
        twins = Twins(self, LINE)
        c = twins.one
        twins.do("cut", 1, 2)
        for x in (0, 2):
            twins.do("begin", x)
            twins.do("put", x, 5, x)
        twins.do("put", 2, 5, 22)
        twins.do("mend", 1, 2)
        # 3 knows nothing of edition 1; what it alone has is no end.
        twins.do("change", 0, ONES, 4, 11)
        self.assertEqual(sorted(row[1:] for row in c.ends(0)), [(1, 1), (1, 2)])
        twins.do("down", 2)
        twins.do("wipe", 2)
        self.refuses(NotSealed, 0, c.ends, 0)
        twins.same()

    def test_a_host_that_knows_no_more_brings_no_end(self):
        twins = Twins(self, full_net(4, 3))
        c = twins.one
        twins.do("begin", 0)
        twins.do("put", 0, 5, 7)
        # 0 alone holds a second row, and does not hear of the change.
        twins.do("put", 0, 5, 8, 5)
        for x in (1, 2, 3):
            twins.do("cut", 0, x)
        twins.do("change", 1, ONES, 2)
        self.assertEqual([len(c.cell(x, (0, 0))[3]) for x in range(4)], [2, 1, 1, 1])
        self.tells(((0, 1, 1),), c.ends, 0)
        twins.same()

    def test_editions_behind_wipes(self):
        twins = Twins(self, FOUR)
        c = twins.one
        twins.do("change", 3, ONES, 3, 9)
        self.tells(((ONES, 2), (ONES, 3)), c.editions)
        twins.do("down", 0)
        self.tells(((ONES, 2), (ONES, 3)), c.editions)
        twins.do("wipe", 0)
        self.tells(((ONES, 2),), c.editions)
        self.tells((1, 1, (ONES, 3, ())), c.book, 1, 0)
        # The book still has what was proposed.
        self.assertEqual(twins.do("change", 1, (5, 5, 5, 5), 1), (1, ONES, 3))
        for x in (1, 2, 3):
            twins.do("down", x)
            twins.do("wipe", x)
        self.tells(((ONES, 2),), c.editions)
        self.tells(False, c.sealed, 0)
        twins.same()

    def test_a_part_goes_on_by_the_elder_edition(self):
        twins = Twins(self, FOUR)
        c = twins.one
        twins.do("begin", 0)
        for x in (0, 1):
            for y in (2, 3):
                twins.do("cut", x, y)
        twins.do("begin", 2)
        twins.do("mend", 1, 2)
        twins.do("cut", 2, 3)
        self.assertEqual(twins.do("change", 0, (1, 1, 0, 0), 2), (1, (1, 1, 0, 0), 2))
        twins.do("cut", 1, 2)
        twins.do("mend", 2, 3)
        # 2 knows the new edition, by which (2, 3) does not work; 3 alone knows the elder one only.
        self.refuses(NotWorking, (2, 3), c.begin, 3)
        self.assertEqual([c.edition(x) for x in range(4)], [1, 1, 1, 0])
        twins.do("down", 2)
        twins.do("wipe", 2)
        twins.do("up", 2)
        self.refuses(NotWorking, (3,), c.restore, 2, 3)
        self.tells(1, c.begin, 0)
        self.tells((1, 1, (0, 1), (), 0), c.cell, 1, (1, 0))

    def test_knows_are_heard_with_an_edition(self):
        twins = Twins(self, FOUR)
        c = twins.one
        twins.do("begin", 0)
        for y in (1, 2, 3):
            twins.do("put", 0, 5, y)
        for x in (0, 1, 2):
            twins.do("cut", x, 3)
        twins.do("begin", 0)
        twins.do("put", 0, 5, 9)
        known = c.known(0)
        twins.do("change", 0, ONES, 3)
        twins.do("mend", 0, 3)
        self.assertNotEqual(c.heard(3), known)
        twins.do("begin", 3)
        self.assertEqual(c.heard(3), known)
        self.assertIn(("hear", known), c.letters(3))
        twins.same()


class Restores(Case):

    def test_example(self):
        twins = Twins(self, FOUR)
        c = twins.one
        for pair in ((0, 2), (0, 3), (1, 2), (1, 3)):
            twins.do("cut", *pair)
        twins.do("begin", 2)
        twins.do("put", 2, 5, 7)
        twins.do("cut", 2, 3)
        for pair in ((0, 2), (1, 2)):
            twins.do("mend", *pair)
        self.assertEqual(twins.do("change", 0, (1, 1, 0, 0), 2), (1, (1, 1, 0, 0), 2))
        for word in ("down", "wipe", "up"):
            twins.do(word, 2)
        self.refuses(Harmful, (2, 3), c.restore, 2, 0)
        twins.same()

    def blank(self, net, x, before=(), rule=None, restores=None):
        """A cluster, and its model, in which some deeds were done, and then the disk of a host was wiped."""
        twins = Twins(self, net, rule, restores)
        for word, *args in before:
            twins.do(word, *args)
        for word in ("down", "wipe", "up"):
            twins.do(word, x)
        return twins

    def test_what_the_restored_host_has(self):
        twins = self.blank(FOUR, 3, (("begin", 0), ("put", 0, 5, 7), ("put", 0, 5, 8, 9), ("change", 0, ONES, 3, 9),
                                     ("change", 0, (2, 1, 1, 1), 3, 9), ("change", 1, ONES, 2, 1)))
        c = twins.one
        self.tells(None, c.restore, 3, 1)
        twins.two.restore(3, 1)
        rows = ((1, 5, 7, ()), (1, 5, 8, ((0, 0, 1, 1),)))
        self.tells((1, 1, (), rows, 2), c.cell, 3, (0, 0))
        self.tells(((0, 0, 1, 2),), c.heard, 3)
        self.tells(2, c.edition, 3)
        # Of each book the promise alone goes over.
        self.assertEqual([c.book(3, e) for e in range(4)], [(1, 0, None), (1, 0, None), (1, 0, None), (0, 0, None)])
        self.assertEqual(c.letters(3), (("hear", ((0, 0, 1, 2),)), ("hear", ((0, 0, 1, 2),)),
                                        ("copy", (((0, 0), (1, 1, (), rows, 2), (1, 2)),))))
        twins.same()
        self.refuses(NotOpen, (2, 0), c.put, 3, 5, 5)
        twins.do("begin", 3)
        twins.do("put", 3, 5, 9)
        twins.same()

    def test_the_greatest_of_all_members(self):
        # 0 has the greatest promise, 1 and 2 the greatest rows, 0 the greatest sure; 3 is restored from all of them.
        twins = self.blank(FOUR, 3, (("begin", 0), ("put", 0, 5, 7), ("put", 0, 5, 8, 7), ("begin", 0, 1)))
        twins.do("restore", 3, 2)
        self.tells((2, 1, (), ((1, 5, 7, ()), (1, 5, 8, ((0, 0, 1, 1),))), 1), twins.one.cell, 3, (0, 0))
        twins.same()

    def test_a_restore_that_tells_nothing(self):
        twins = self.blank(FOUR, 3)
        twins.do("restore", 3, 2)
        self.tells((), twins.one.letters, 3)
        self.tells(("up", "written"), twins.one.state, 3)
        twins.same()

    def test_each_refusal_by_itself(self):
        # NotWorking alone: 1 has too few votes.
        twins = self.blank(FOUR, 3, (("cut", 1, 0), ("cut", 1, 2)))
        self.refuses(NotWorking, (1,), twins.one.restore, 3, 1)
        # NotSettled alone: a proposal of the book of the edition of the part.
        twins = self.blank(FOUR, 3, (("change", 0, ONES, 3, 6),))
        self.refuses(NotSettled, (0, 1, 2), twins.one.restore, 3, 1)
        twins.do("change", 0, ONES, 1)
        twins.do("restore", 3, 1)
        # Harmful alone: (2, 3) could work.
        twins = self.blank(FOUR, 3, (("cut", 0, 2), ("cut", 1, 2)))
        self.refuses(Harmful, (2, 3), twins.one.restore, 3, 1)
        twins.do("mend", 0, 2)
        twins.do("restore", 3, 1)
        twins.same()

    def test_each_refusal_ahead_of_the_others(self):
        before = (("cut", 0, 2), ("cut", 1, 2), ("mend", 0, 2), ("change", 0, ONES, 3, 4 + 2), ("cut", 0, 2))
        twins = self.blank(FOUR, 3, before)
        self.refuses(NotSettled, (0, 1), twins.one.restore, 3, 1)
        twins.do("cut", 0, 1)
        self.refuses(NotWorking, (1,), twins.one.restore, 3, 1)
        self.refuses(NotWorking, (2,), twins.one.restore, 3, 2)
        twins.do("mend", 0, 1)
        twins.do("mend", 0, 2)
        self.refuses(NotSettled, (0, 1, 2), twins.one.restore, 3, 2)
        twins.same()

    def test_harm_by_an_elder_edition(self):
        # By edition 1 the hosts 2 and 3 have no votes, by edition 0 they would work.
        twins = self.blank(FOUR, 3, (("change", 0, (1, 1, 0, 0), 2), ("cut", 0, 2), ("cut", 1, 2)))
        self.refuses(Harmful, (2, 3), twins.one.restore, 3, 1)
        # By edition 1 the hosts 2 and 3 would work, by edition 0 not; and so by both.
        for need in (3, 2):
            twins = self.blank(full_net(4, need), 3, (("change", 0, (2, 2, 2, 2), 4), ("cut", 0, 2), ("cut", 1, 2)))
            self.refuses(Harmful, (2, 3), twins.one.restore, 3, 1)
            twins.same()

    def test_the_piece_runs_over_broken_links_and_hosts_that_are_down(self):
        twins = self.blank(R, 3, (("down", 4), ("cut", 3, 4)), RING_RULE)
        self.refuses(Harmful, (3, 4), twins.one.restore, 3, 2)
        twins.do("up", 4)
        twins.do("restore", 3, 2)
        twins.same()

    def test_a_cluster_made_with_restores(self):
        let = ((3, (0, 1, 2)), (3, (2,)), (2, (0, 1)))
        twins = self.blank(FOUR, 3, (("begin", 0), ("put", 0, 5, 7), ("change", 0, ONES, 2, 6)), restores=let)
        c = twins.one
        # Nothing more is asked: a proposal stands there.
        twins.do("restore", 3, 1)
        twins.same()
        for word in ("down", "wipe", "up"):
            twins.do(word, 3)
        twins.do("cut", 0, 2)
        self.tells((0, 1, 2), c.part, 0)
        twins.do("cut", 1, 2)
        self.refuses(NotLet, (3, (0, 1)), c.restore, 3, 1)
        # (2,) does not work, and the piece (0, 1, 3) would.
        twins.do("restore", 3, 2)
        twins.do("cut", 0, 3)
        twins.do("cut", 1, 3)
        self.tells((2, 3), c.part, 2)
        twins.same()
        for word in ("down", "wipe", "up"):
            twins.do(word, 2)
        self.refuses(NotLet, (2, (3,)), c.restore, 2, 3)
        twins.same()

    def test_a_cluster_made_with_no_restores_lets_none(self):
        for let in ((), ((3, (0, 1)),)):
            twins = self.blank(FOUR, 3, restores=let)
            self.refuses(NotLet, (3, (0, 1, 2)), twins.one.restore, 3, 1)
            twins.same()

    def test_unlike_editions_of_one_number(self):
        # 2 is made ignorant of the edition that 0 and 1 decided, and decides another one with 3.
        let = ((2, (3,)),)
        twins = Twins(self, full_net(4, 2), restores=let)
        for word, *args in (("cut", 0, 3), ("cut", 1, 3), ("cut", 2, 3), ("change", 0, (1, 1, 1, 0), 2), ("down", 2),
                            ("wipe", 2), ("up", 2), ("cut", 0, 2), ("cut", 1, 2), ("mend", 2, 3), ("restore", 2, 3)):
            twins.do(word, *args)
        self.assertEqual([twins.one.edition(x) for x in range(4)], [1, 1, 0, 0])
        self.refuses(NotCommanding, (2, 3), twins.one.change, 2, ONES, 1)
        for x in (0, 1):
            twins.do("down", x)
            twins.do("wipe", x)
        twins.same()

    def test_drawn_restores(self):
        words = ["cut", "mend", "down", "up", "up", "wipe", "wipe", "restore", "restore", "restore", "begin", "put", "share",
                 "change"]
        done = 0
        for seed in range(40):
            chance = Random(seed)
            net = chance.choice(NETS)
            let = None
            if seed % 2:
                some = [(x, lot) for x in range(len(net[0])) for size in range(1, 4)
                        for lot in combinations(range(len(net[0])), size)
                        if x not in lot and slow_hangs(net, lot) and slow_hangs(net, tuple(sorted(lot + (x,))))]
                let = tuple(chance.sample(some, min(len(some), 12)))
            twins = Twins(self, net, restores=let)
            for _ in range(50):
                word, *args = some_deed(chance, twins.one, words)
                done += twins.ask(word, *args)[0] == "told" and word == "restore"
            twins.same()
            twins.same_disks()
        self.assertGreater(done, 20)

    def test_triangles_and_single_hosts(self):
        twins = self.blank(TRIANGLES, 4, (("begin", 0), ("put", 0, 5, 7)))
        twins.do("restore", 4, 3)
        twins.do("share", 4)
        twins.same()
        c = Cluster(linked_net(1, []), ZERO)
        for method in (c.down, c.wipe, c.up):
            method(0)
        self.tells((), c.parts)
        self.tells((((1,), 1),), c.editions)


if __name__ == "__main__":
    unittest.main()
