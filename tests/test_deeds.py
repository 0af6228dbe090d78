"""Logs begun, rows put and shared, with letters cut off, and what is asked of them, [46] to [53]."""

import unittest
from random import Random

from fifthhost.cluster import Cluster
from fifthhost.errors import BadLetters, NotOpen
from tests.clustersets import DEEDS, FOUR, LINE, NETS, Twins, some_deed
from tests.common import R, TRIANGLES, Case, full_net, linked_net, slow_working
from tests.rulesets import RING_RULE, ZERO

ALL_4 = (0, 1, 2, 3)
NAME = (0, 0)
ROW = (1, 5, 7, ())


class Deeds(Case):

    def test_example(self):
        twins = Twins(self, R, RING_RULE)
        c = twins.one
        for pair in ((1, 2), (3, 4), (0, 4)):
            twins.do("cut", *pair)
        self.tells(((0, 1), (2, 3), (4,)), c.parts)
        for word, args, told in (("begin", (0,), 1), ("begin", (2,), 1), ("put", (0, 5, 7), 0), ("put", (2, 5, 8), 0),
                                 ("mend", (3, 4), None), ("cut", (2, 3), None), ("begin", (3,), 2), ("put", (3, 5, 9), 1)):
            self.assertEqual(twins.do(word, *args), told)
        self.tells((((1, 5, 8, ()), (2, 5, 9, ((0, 1, 1, 1),))), 2), c.read, 4, (0, 1))
        self.tells((((1, 5, 7, ()),), 1), c.read, 1, (0, 0))
        self.tells(((0, 1, 1, 2, 9),), c.show, 3, 5)
        for pair in ((1, 2), (2, 3), (0, 4)):
            twins.do("mend", *pair)
        self.tells(((0, 0, 0, 1, 7), (0, 1, 1, 2, 9)), c.show, 0, 5)
        self.tells(False, c.final, (0, 0), 1, 0)
        twins.do("share", 0)
        self.tells(True, c.final, (0, 0), 1, 0)
        self.tells((((0, 1), (0, 0), 0, 1, 5, 7, ()), ((2, 3), (0, 1), 0, 1, 5, 8, ()),
                    ((3, 4), (0, 1), 1, 2, 5, 9, ((0, 1, 1, 1),))), c.record)
        twins.same()

    def test_a_log_begun_with_each_number_of_letters(self):
        for letters in (None, *range(13)):
            twins = Twins(self, FOUR)
            c = twins.one
            came = 12 if letters is None else letters
            self.assertEqual(twins.do("begin", 2, letters), 1 if came >= 8 else None)
            for x in ALL_4:
                row = (("promise", NAME, 1), ("take", NAME, 1, ALL_4, ()), ("sure", NAME, 0, ALL_4))
                got = sum(turn * 4 + x < came for turn in range(3))
                self.tells(row[:got], c.letters, x)
                cells = ((0, 0, (), (), 0), (1, 0, (), (), 0), (1, 1, ALL_4, (), 0), (1, 1, ALL_4, (), 0))
                self.tells(cells[got], c.cell, x, NAME)
                self.tells((), c.heard, x)
            twins.same()
            # Behind two rounds rows may be put, whatever came of the third one.
            if came >= 8:
                self.assertEqual(twins.do("put", 1, 5, 7), 0)
            else:
                self.refuses(NotOpen, NAME, c.put, 1, 5, 7)
            self.assertEqual(twins.do("begin", 3), 2 if came else 1)
            twins.same()

    def test_a_row_put_with_each_number_of_letters(self):
        for letters in (None, *range(13)):
            twins = Twins(self, FOUR)
            c = twins.one
            twins.do("begin", 0)
            came = 12 if letters is None else letters
            self.assertEqual(twins.do("put", 2, 5, 7, letters), 0 if came >= 8 else None)
            for x in ALL_4:
                row = (("note", NAME, ROW, 0), ("hold", NAME, ROW), ("sure", NAME, 1, ALL_4))
                got = sum(turn * 4 + x < came for turn in range(3))
                self.tells(row[:got], lambda y: c.letters(y)[3:], x)
                cells = ((1, 1, ALL_4, (), 0), (1, 1, (), (), 0), (1, 1, (), (ROW,), 0), (1, 1, ALL_4, (ROW,), 1))
                self.tells(cells[got], c.cell, x, NAME)
                self.tells(((0, 0, 1, 1),) if got else (), c.heard, x)
            self.tells(((ALL_4, NAME, 0) + ROW,) if came >= 8 else (), c.record)
            twins.same()
            if came in (0, 12):
                self.assertEqual(twins.do("put", 1, 5, 8), came // 12)
                continue
            self.refuses(NotOpen, NAME, c.put, 1, 5, 8)
            self.refuses(NotOpen, NAME, c.put, 0, 5, 8, 13)
            self.assertEqual(twins.do("begin", 3), 2)
            self.assertEqual(twins.do("put", 1, 5, 9), 1 if came >= 5 else 0)
            # A row that was cut off, but noted, is known to the next one all the same.
            self.assertEqual(c.read(0, NAME)[0][-1], (2, 5, 9, ((0, 0, 1, 1),)))
            twins.same()

    def test_one_letter_too_many(self):
        for net, most in ((FOUR, 12), (R, 15), (full_net(3), 9), (linked_net(1, []), 3)):
            c = Cluster(net, ZERO)
            self.refuses(BadLetters, most + 1, c.begin, 0, most + 1)
            self.tells(1, c.begin, 0, most)
            self.refuses(BadLetters, most + 1, c.put, 0, 5, 7, most + 1)
            self.tells(0, c.put, 0, 5, 7, most)
            self.refuses(BadLetters, most + 1, c.change, 0, net[0], net[2], most + 1)
            self.tells((1, net[0], net[2]), c.change, 0, net[0], net[2], most)

    def test_letters_count_for_the_part_alone(self):
        c = Cluster(FOUR, ZERO)
        c.cut(0, 3)
        c.cut(1, 3)
        c.cut(2, 3)
        self.refuses(BadLetters, 10, c.begin, 0, 10)
        self.tells(1, c.begin, 0, 6)
        self.tells(None, c.put, 0, 5, 7, 5)
        self.tells((0, 0, (), (), 0), c.cell, 3, NAME)

    def test_a_log_of_another_lot_is_not_open(self):
        twins = Twins(self, R, RING_RULE)
        c = twins.one
        twins.do("begin", 0)
        twins.do("put", 0, 5, 7)
        # The lot (0, 1) has the same log, but did not open it.
        twins.do("cut", 1, 2)
        twins.do("cut", 0, 4)
        self.refuses(NotOpen, (0, 0), c.put, 0, 5, 8)
        self.assertEqual(twins.do("begin", 0), 2)
        self.assertEqual(twins.do("put", 0, 5, 8), 1)
        twins.do("mend", 1, 2)
        self.refuses(NotOpen, (0, 0), c.put, 0, 5, 9)
        twins.do("cut", 1, 2)
        self.assertEqual(twins.do("put", 0, 5, 9), 2)
        twins.same()

    def test_two_logs_by_turns(self):
        twins = Twins(self, LINE)
        twins.do("cut", 1, 2)
        for place in range(3):
            for x, letters in ((0, 6), (2, None), (1, 4), (3, 5)):
                twins.do("begin", x, letters)
                twins.do("put", x, place, x, letters)
                twins.same(1, 3)
        twins.do("mend", 1, 2)
        twins.do("share", 3)
        twins.same()
        self.assertEqual(len(twins.one.record()), 12)

    def test_the_rows_of_the_greatest_pair_go_on(self):
        twins = Twins(self, full_net(4, 3))
        c = twins.one
        twins.do("begin", 0)
        twins.do("put", 0, 5, 1)
        # Just 0 and 1 hold the next row; what they hold is what (1, 2, 3) goes on with.
        twins.do("put", 0, 5, 2, 6)
        for x in (1, 2, 3):
            twins.do("cut", 0, x)
        self.tells((((1, 5, 1, ()), (1, 5, 2, ((0, 0, 1, 1),))), 1), c.read, 3, NAME)
        self.assertEqual(twins.do("begin", 3), 2)
        self.tells((((1, 5, 1, ()), (1, 5, 2, ((0, 0, 1, 1),))), 2), c.read, 3, NAME)
        self.tells(((0, 0, 1, 2),), c.heard, 3)
        self.assertEqual(twins.do("put", 2, 5, 3), 2)
        twins.same()

    def test_the_greatest_taken_and_not_the_greatest_promise(self):
        twins = Twins(self, full_net(4, 3))
        c = twins.one
        for word, *args in (("begin", 0), ("put", 0, 5, 1), ("put", 0, 5, 2, 5), ("cut", 0, 1), ("cut", 0, 2), ("cut", 0, 3),
                            ("begin", 1, 3), ("mend", 0, 1)):
            twins.do(word, *args)
        self.assertEqual([(c.cell(x, NAME)[:2], len(c.cell(x, NAME)[3])) for x in ALL_4], [((1, 1), 2)] + [((2, 1), 1)] * 3)
        self.assertEqual(len(c.read(3, NAME)[0]), 2)
        self.assertEqual(twins.do("begin", 3), 3)
        self.assertEqual([len(c.cell(x, NAME)[3]) for x in ALL_4], [2, 2, 2, 2])
        twins.same()

    def test_a_row_that_covers_itself(self):
        # By a rule that is wrong (0, 1) and (2, 3) have one name, and (1, 2) carries news of a great number from one to the other.
        for l, last in ((0, 2), (1, 0)):
            rule = ("table", (((0, 1), l), ((1, 2), 3), ((2, 3), l), ((3, 4), last), ((2, 3, 4), 4)))
            twins = Twins(self, R, rule)
            c = twins.one
            for word, *args in (("cut", 1, 2), ("cut", 0, 4), ("cut", 3, 4), ("begin", 0), ("begin", 0), ("begin", 0), ("put", 0, 5, 1),
                                ("mend", 1, 2), ("cut", 0, 1), ("cut", 2, 3), ("begin", 1), ("put", 1, 7, 2), ("cut", 1, 2),
                                ("mend", 2, 3), ("begin", 2), ("put", 2, 5, 3)):
                twins.do(word, *args)
            self.assertEqual(c.record()[-1], ((2, 3), (0, l), 0, 1, 5, 3, ((0, l, 3, 1), (0, 3, 1, 1))))
            self.tells(((0, l, 0, 1, 3),), c.show, 2, 5)
            # Another row that covers it hides it, though it knows no more.
            for word, *args in (("cut", 2, 3), ("mend", 3, 4), ("begin", 3), ("put", 3, 5, 4), ("mend", 2, 3)):
                twins.do(word, *args)
            self.tells(((0, last, 0, 1, 4),), c.show, 2, 5)
            twins.same(1, 4)

    def test_a_row_just_behind_what_another_one_knows(self):
        twins = Twins(self, LINE)
        c = twins.one
        for word, *args in (("cut", 1, 2), ("begin", 0), ("put", 0, 5, 1), ("mend", 1, 2), ("share", 0), ("cut", 1, 2),
                            ("put", 0, 5, 2), ("begin", 2), ("put", 2, 5, 3), ("mend", 1, 2)):
            twins.do(word, *args)
        self.assertEqual([row[4] for row in c.show(0, 5)], [2, 3] if c.record()[0][1] < c.record()[2][1] else [3, 2])
        twins.same()

    def test_stories_with_rules_that_are_wrong(self):
        for seed in range(40):
            chance = Random(seed)
            net = chance.choice((R, FOUR, LINE, TRIANGLES))
            rule = ("table", tuple((lot, chance.randrange(2)) for lot in slow_working(net)))
            twins = Twins(self, net, rule)
            for step in range(60):
                twins.ask(*some_deed(chance, twins.one, DEEDS + ["forget"]))
                if step % 6 == 5:
                    for x in range(len(net[0])):
                        twins.ask("show", x, 5)
                        twins.ask("known", x)
            twins.same()

    def test_the_least_host_of_several(self):
        # By a rule that is wrong (0, 1) and (2, 3) write unlike rows at one place of one name.
        for turns in ((0, 2), (2, 0)):
            twins = Twins(self, FOUR, ZERO)
            for pair in ((0, 2), (0, 3), (1, 2), (1, 3)):
                twins.do("cut", *pair)
            for x in turns:
                twins.do("begin", x)
                twins.do("put", x, 5, x)
            for pair in ((0, 2), (0, 3), (1, 2), (1, 3)):
                twins.do("mend", *pair)
            self.tells((((1, 5, 0, ()),), 1), twins.one.read, 3, NAME)
            twins.do("share", 3)
            self.tells((1, 1, (2, 3), ((1, 5, 2, ()),), 1), twins.one.cell, 3, NAME)
            self.assertEqual(twins.do("begin", 3), 2)
            for x in range(4):
                self.tells((2, 2, (0, 1, 2, 3), ((1, 5, 0, ()),), 1), twins.one.cell, x, NAME)
            twins.same()

    def test_shares_of_parts_that_join(self):
        twins = Twins(self, R, RING_RULE)
        c = twins.one
        for pair in ((1, 2), (3, 4), (0, 4)):
            twins.do("cut", *pair)
        for x in (0, 2):
            twins.do("begin", x)
            twins.do("put", x, x, 7)
        twins.do("begin", 0)
        twins.do("put", 1, 7, 7, 3)
        twins.do("mend", 1, 2)
        twins.do("share", 3)
        rows = ((1, 0, 7, ()), (2, 7, 7, ((0, 0, 1, 1),)))
        # 0 and 1 noted the row, 0 alone holds it: there is no opener where rows are taken over, or a row was noted.
        self.tells((2, 2, (), rows, 1), c.cell, 0, (0, 0))
        self.tells((2, 2, (), rows, 1), c.cell, 3, (0, 0))
        self.tells((1, 1, (2, 3), ((1, 2, 7, ()),), 1), c.cell, 2, (0, 1))
        self.tells((1, 1, (), ((1, 2, 7, ()),), 1), c.cell, 0, (0, 1))
        for x in range(4):
            self.tells(((0, 0, 2, 2), (0, 1, 1, 1)), c.heard, x)
        self.tells(((0, 0, 2, 2), (0, 1, 1, 1)), c.known, 0)
        self.tells((), c.heard, 4)
        twins.same()
        # A share that changes nothing leaves no letter.
        told = [c.letters(x) for x in range(5)]
        twins.do("share", 0)
        twins.do("share", 4)
        self.assertEqual(told, [c.letters(x) for x in range(5)])

    def test_promises_and_sures_are_shared(self):
        twins = Twins(self, FOUR)
        c = twins.one
        twins.do("begin", 0)
        twins.do("put", 0, 5, 7, 9)
        twins.do("begin", 0, 2)
        self.assertEqual([c.cell(x, NAME) for x in ALL_4],
                         [(2, 1, ALL_4, (ROW,), 1), (2, 1, (), (ROW,), 0), (1, 1, (), (ROW,), 0), (1, 1, (), (ROW,), 0)])
        twins.do("share", 2)
        # No promise goes over, but what was taken is promised; sure and what was heard do go over.
        self.assertEqual([c.cell(x, NAME) for x in ALL_4],
                         [(2, 1, ALL_4, (ROW,), 1), (2, 1, (), (ROW,), 1), (1, 1, (), (ROW,), 1), (1, 1, (), (ROW,), 1)])
        twins.same()

    def test_knows_go_along_with_rows(self):
        twins = Twins(self, TRIANGLES)
        c = twins.one
        # (0, 1) and (3, 4) write apart, the host 2 goes over from one to the other.
        for pair in ((0, 2), (1, 2)):
            twins.do("cut", *pair)
        self.assertEqual(twins.do("begin", 3), 1)
        self.assertEqual(twins.do("put", 3, 5, 7), 0)
        name = c.record()[0][1]
        for pair in ((0, 2), (1, 2)):
            twins.do("mend", *pair)
        for pair in ((2, 3), (2, 4)):
            twins.do("cut", *pair)
        self.assertEqual(twins.do("begin", 0), 1)
        self.assertEqual(twins.do("put", 0, 5, 8), 0)
        entry = c.record()[1]
        self.assertEqual(entry[6], (name + (1, 1),))
        for x in (0, 1, 2):
            self.assertEqual(c.heard(x), tuple(sorted([name + (1, 1), entry[1] + (1, 1)])))
        self.tells((entry[1] + (0, 1, 8),), c.show, 1, 5)
        self.tells((((1, 5, 7, ()),), 1), c.read, 0, name)
        # (0, 1) has heard of a row that nobody there holds.
        twins.do("down", 2)
        self.tells(((), 0), c.read, 0, name)
        self.assertEqual(c.known(0), tuple(sorted([name + (1, 1), entry[1] + (1, 1)])))
        twins.same()

    def test_show_with_two_names_and_rows_that_cover(self):
        twins = Twins(self, LINE)
        c = twins.one
        twins.do("cut", 1, 2)
        for x in (0, 2):
            twins.do("begin", x)
            for key, value in ((5, x), (7, x), (5, x + 10)):
                twins.do("put", x, key, value)
        self.tells(1, len, c.show(0, 5))
        self.tells(1, len, c.show(0, 7))
        self.tells((), c.show, 0, 6)
        twins.do("mend", 1, 2)
        self.assertEqual(sorted(row[4] for row in c.show(0, 5)), [10, 12])
        self.assertEqual(sorted(row[4] for row in c.show(0, 7)), [0, 2])
        twins.do("begin", 1)
        twins.do("put", 1, 5, 99)
        self.assertEqual([row[4] for row in c.show(0, 5)], [99])
        self.assertEqual(sorted(row[4] for row in c.show(0, 7)), [0, 2])
        # By the next edition, too: its rows know those of the edition ahead.
        twins.do("change", 0, (1, 1, 1, 1), 3)
        twins.do("begin", 2)
        twins.do("put", 2, 7, 77)
        self.assertEqual([row[0::4] for row in c.show(0, 7)], [(1, 77)])
        self.assertEqual([row[0::4] for row in c.show(0, 5)], [(0, 99)])
        twins.same()

    def test_final_ahead_of_a_share_and_behind_it(self):
        twins = Twins(self, FOUR)
        c = twins.one
        for x in (0, 1):
            twins.do("cut", x, 2)
            twins.do("cut", x, 3)
        twins.do("begin", 0)
        twins.do("put", 0, 5, 7)
        self.tells(False, c.final, NAME, 1, 0)
        twins.do("mend", 1, 2)
        twins.do("cut", 2, 3)
        self.tells(False, c.final, NAME, 1, 0)
        twins.do("share", 0)
        # The host 3 alone has not heard of it, and does not work.
        self.tells(True, c.final, NAME, 1, 0)
        self.tells(False, c.final, NAME, 1, 1)
        self.tells(False, c.final, NAME, 2, 0)
        self.tells(False, c.final, (0, 1), 1, 0)
        self.tells(False, c.final, (7, 0), 1, 0)
        # Hosts that are down count, blank ones do not.
        twins.do("down", 2)
        self.tells(True, c.final, NAME, 1, 0)
        twins.do("wipe", 2)
        self.tells(True, c.final, NAME, 1, 0)
        twins.same()

    def test_final_with_blank_hosts_and_sealed_editions(self):
        twins = Twins(self, FOUR)
        c = twins.one
        for x in (0, 1, 2):
            twins.do("cut", x, 3)
        twins.do("begin", 0)
        twins.do("put", 0, 5, 7, 8)
        self.tells(True, c.final, NAME, 1, 0)
        twins.do("change", 0, (1, 1, 1, 3), 3)
        # By the new votes the host 3 works alone, though it knows nothing of them yet.
        self.tells(False, c.final, NAME, 1, 0)
        self.tells(True, c.sealed, 0)
        twins.do("down", 3)
        self.tells(False, c.final, NAME, 1, 0)
        twins.do("wipe", 3)
        self.tells(True, c.final, NAME, 1, 0)
        twins.same()

    def test_what_is_asked_changes_nothing(self):
        twins = Twins(self, R, RING_RULE)
        chance = Random(3)
        for _ in range(30):
            twins.ask(*some_deed(chance, twins.one))
        told = [(twins.one.letters(x), twins.one.heard(x)) for x in range(5) if twins.one.state(x)[1] == "written"]
        twins.same(4, 4)
        twins.same_disks()
        again = [(twins.one.letters(x), twins.one.heard(x)) for x in range(5) if twins.one.state(x)[1] == "written"]
        self.assertEqual(told, again)

    def test_stories_beside_the_plain_model(self):
        for seed in range(60):
            chance = Random(seed)
            twins = Twins(self, chance.choice(NETS))
            for step in range(40):
                twins.ask(*some_deed(chance, twins.one))
                if step % 8 == 7:
                    twins.same_disks()
            twins.same()


if __name__ == "__main__":
    unittest.main()
