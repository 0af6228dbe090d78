"""Walks round a ring, their numbers and deals, [15] to [17]."""

import unittest
from itertools import combinations, product
from random import Random

from fifthhost.errors import BadHost, BadNeed, BadTimes, BadVotes, NotWorking
from fifthhost.walks import ring_deal, ring_numbers, walk
from tests.common import BROAD, LARGE, NO_NUMBERS, NO_TUPLES, Case, slow_least, slow_logs, slow_once

FIVE = (1, 1, 1, 1, 1)
FUNCTIONS = ((walk, ()), (ring_numbers, (1,)), (ring_deal, (1, 0)))


def slow_end(votes, need, i):
    """The f of the document: the least e greater than i by which the hosts from i on have the need."""
    end = i
    while sum(votes[k % len(votes)] for k in range(i, end)) < need:
        end += 1
    return end


def slow_walk(votes, need):
    """What the walk tells, by walking for long."""
    many = len(votes)
    if sum(votes) < need:
        return None
    row = [0]
    while row[-1] < 5 * many * many:
        row.append(slow_end(votes, need, row[-1]))
    late = [at for at in row if at >= many * many]
    again = [index for index, at in enumerate(late) if at % many == late[0] % many]
    return (tuple(sorted({at % many for at in late})), (late[again[1]] - late[0]) // many)


def slow_parts(votes, need):
    """All working parts of a ring, as pairs (begin, hosts); that of all hosts begins anywhere."""
    many = len(votes)
    rows = [(begin, [(begin + k) % many for k in range(size)]) for begin in range(many) for size in range(1, many + 1)]
    return [(begin, tuple(sorted(row))) for begin, row in rows if sum(votes[x] for x in row) >= need]


def small_rings():
    """Rings of 3 and 4 hosts with all small votes, and some greater rings."""
    for many, top in ((3, 4), (4, 3)):
        yield from product(range(top), repeat=many)
    chance = Random(15)
    for _ in range(150):
        yield tuple(chance.choice((0, 1, 1, 2, 3)) for _ in range(chance.randint(5, 8)))


def cases():
    """Small rings with all needs from 1 to one more than they have."""
    for votes in small_rings():
        for need in range(1, sum(votes) + 2):
            yield votes, need


class Walk(Case):

    def test_examples(self):
        self.tells(((0, 1, 2, 3, 4), 2), walk, FIVE, 2)
        self.tells(((0, 2, 4), 1), walk, (3, 1, 2, 2, 1, 3), 4)
        self.tells(((1, 3, 4), 1), walk, (1, 1, 1, 2, 1), 2)
        self.tells(((1,), 1), walk, (1, 0, 0), 1)
        self.tells(((0,), 1), walk, (1, 1, 1), 3)
        self.tells(None, walk, (1, 1, 1), 4)

    def test_by_walking_for_long(self):
        for votes, need in cases():
            self.assertEqual(walk(votes, need), slow_walk(votes, need), (votes, need))

    def test_none_just_where_the_votes_are_too_few(self):
        for votes in ((0, 0, 0), (0, 5, 0), FIVE, (LARGE, 0, LARGE), (0,) * 200, (1,) * 200):
            told = walk(votes, max(1, sum(votes)))
            self.assertEqual(told is None, sum(votes) == 0)
            self.tells(None, walk, votes, sum(votes) + 1)

    def test_just_the_need(self):
        self.tells(((0,), 1), walk, FIVE, 5)
        self.tells(((2,), 1), walk, (0, 7, 0), 7)
        self.tells(((0,), 1), walk, (0, 0, 7), 7)

    def test_two_hundred_hosts(self):
        every = tuple(range(200))
        self.tells((every, 3), walk, (1,) * 200, 3)
        self.tells((every[::2], 1), walk, (1,) * 200, 2)
        self.tells((every, 199), walk, (1,) * 200, 199)
        self.tells(((0,), 1), walk, (1,) * 200, 200)
        self.tells((every, 1), walk, (LARGE,) * 200, LARGE)

    def test_large_numbers(self):
        for votes, need in (((3, 1, 2, 2, 1, 3), 4), ((1, 1, 1, 2, 1), 2), (FIVE, 2), ((1, 0, 0), 1)):
            large = tuple(one * LARGE for one in votes)
            self.tells(walk(votes, need), walk, large, need * LARGE)
            self.tells(walk(votes, need), walk, large, need * LARGE - LARGE + 1)

    def test_wrong_votes(self):
        for function, others in FUNCTIONS:
            for votes in NO_TUPLES + ((), (1,), (1, 1), (1,) * 201, [1, 1, 1], BROAD, "111", (-1, True)):
                self.refuses(BadVotes, -1, function, votes, 1, *others)
                self.refuses(BadVotes, -1, function, votes, None, *[None for _ in others])
            for worth in NO_NUMBERS + (-1, -LARGE):
                self.refuses(BadVotes, 0, function, (worth, 1, 1), 1, *others)
                self.refuses(BadVotes, 199, function, (1,) * 199 + (worth,), 0, *others)
                self.refuses(BadVotes, 1, function, (1, worth, worth), True, *others)

    def test_lengths_that_are_let(self):
        for function, others in FUNCTIONS:
            for many in (3, 4, 199, 200):
                function((1,) * many, 1, *others)

    def test_wrong_needs(self):
        for function, others in FUNCTIONS:
            for need in NO_NUMBERS + (0, -1, -LARGE):
                self.refuses(BadNeed, need, function, FIVE, need, *others)
                self.refuses(BadNeed, need, function, (0, 0, 0), need, *[-1 for _ in others])


class Numbers(Case):

    def test_examples(self):
        for t, wanted in ((1, 3), (2, 5), (3, 8)):
            self.tells((2, wanted), ring_numbers, FIVE, 2, t)
        self.tells((2, 3), ring_numbers, (1,) * 7, 3, 1)
        self.tells((2, 5), ring_numbers, (1,) * 7, 3, 2)
        self.tells((3, 3), ring_numbers, (3, 1, 2, 2, 1, 3), 4, 1)
        self.tells((1, 4), ring_numbers, (1, 1, 1), 2, 4)
        self.tells((0, 0), ring_numbers, (1, 1, 1), 4, 4)

    def test_by_the_words(self):
        for votes, need in cases():
            told = slow_walk(votes, need)
            for t in (1, 2, 3, 7, 99):
                if told is None:
                    wanted = (0, 0)
                elif len(told[0]) < 2 * told[1]:
                    wanted = (1, t)
                else:
                    least = [m for m in range(100 * len(votes)) if m * told[1] >= t * len(told[0])][0]
                    wanted = (len(told[0]) // told[1], least)
                self.tells(wanted, ring_numbers, votes, need, t)

    def test_beside_all_parts(self):
        for votes, need in cases():
            parts = sorted({part for _, part in slow_parts(votes, need)}, key=len)
            least = slow_least(parts)
            self.assertEqual(ring_numbers(votes, need, 1), (slow_once(least), slow_logs(least)), (votes, need))

    def test_many_hosts_and_large_numbers(self):
        self.tells((66, 67), ring_numbers, (1,) * 200, 3, 1)
        self.tells((66, 6600), ring_numbers, (1,) * 200, 3, 99)
        self.tells((200, 19800), ring_numbers, (LARGE,) * 200, LARGE, 99)
        self.tells((2, 248), ring_numbers, (LARGE,) * 5, 2 * LARGE, 99)
        self.tells((1, 99), ring_numbers, (LARGE,) * 5, 2 * LARGE + 1, 99)
        self.tells((0, 0), ring_numbers, (LARGE,) * 5, 5 * LARGE + 1, 99)

    def test_wrong_times(self):
        for t in NO_NUMBERS + (0, 100, -1, LARGE, -LARGE):
            self.refuses(BadTimes, t, ring_numbers, FIVE, 2, t)
            self.refuses(BadTimes, t, ring_numbers, FIVE, 6, t)
            self.refuses(BadTimes, t, ring_deal, FIVE, 2, t, 0)
            self.refuses(BadTimes, t, ring_deal, FIVE, 6, t, None)
        for t in (1, 99):
            self.tells((1, t), ring_numbers, (1, 1, 1), 2, t)


class Deals(Case):

    def test_examples(self):
        for begin, wanted in enumerate((0, 0, 1, 1, 2)):
            self.tells((wanted,), ring_deal, FIVE, 2, 1, begin)
        self.tells((0, 1), ring_deal, FIVE, 2, 2, 0)
        self.tells((0, 4), ring_deal, FIVE, 2, 2, 4)
        for begin, wanted in enumerate((2, 0, 0, 1, 2)):
            self.tells((wanted,), ring_deal, (1, 1, 1, 2, 1), 2, 1, begin)
        self.tells((0, 1, 2), ring_deal, (1, 1, 1), 2, 3, 2)
        self.refuses(BadHost, 3, ring_deal, (1, 1, 1), 4, 1, 3)
        self.refuses(NotWorking, (), ring_deal, (1, 1, 1), 4, 1, 2)

    def test_by_the_words(self):
        for votes, need in cases():
            told = walk(votes, need)
            if told is None:
                continue
            starts, rounds = told
            for t in (1, 2, 5):
                every = ring_numbers(votes, need, t)[1]
                for begin in range(len(votes)):
                    wanted = tuple(range(t))
                    if len(starts) >= 2 * rounds:
                        j = max([k for k, start in enumerate(starts) if start <= begin], default=len(starts) - 1)
                        wanted = tuple(sorted((j * every // len(starts) + s) % every for s in range(t)))
                    self.tells(wanted, ring_deal, votes, need, t, begin)

    def test_parts_that_are_apart_get_no_common_log(self):
        for votes, need in cases():
            parts = slow_parts(votes, need)
            for t in (1, 2, 3):
                every = ring_numbers(votes, need, t)[1]
                deals = {begin: ring_deal(votes, need, t, begin) for begin, _ in parts}
                for dealt in deals.values():
                    self.assertEqual((len(set(dealt)), tuple(sorted(dealt))), (t, dealt))
                    self.assertTrue(0 <= dealt[0] and dealt[-1] < every)
                for (one, hosts), (two, others) in combinations(parts, 2):
                    if not set(hosts) & set(others):
                        self.assertFalse(set(deals[one]) & set(deals[two]), (votes, need, t, one, two))

    def test_many_hosts_and_large_numbers(self):
        self.tells(tuple(range(99)), ring_deal, (1,) * 200, 3, 99, 0)
        self.tells((66,), ring_deal, (1,) * 200, 3, 1, 199)
        self.tells((199,), ring_deal, (LARGE,) * 200, LARGE, 1, 199)
        self.tells((1,), ring_deal, (LARGE,) * 5, 2 * LARGE, 1, 3)
        self.tells((0,), ring_deal, (LARGE,) * 5, 5 * LARGE, 1, 4)

    def test_wrong_begins(self):
        for begin in NO_NUMBERS + (-1, 5, 200, LARGE, -LARGE):
            self.refuses(BadHost, begin, ring_deal, FIVE, 2, 1, begin)
            self.refuses(BadHost, begin, ring_deal, FIVE, 6, 99, begin)
        for begin in (0, 199):
            self.assertEqual(len(ring_deal((1,) * 200, 2, 1, begin)), 1)
            self.refuses(NotWorking, (), ring_deal, (1,) * 200, 201, 1, begin)
        self.refuses(BadHost, 200, ring_deal, (1,) * 200, 2, 1, 200)


if __name__ == "__main__":
    unittest.main()
