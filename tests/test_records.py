"""Entries and records, [62], how many rows of rows there are, [63], and records judged, [64]."""

import unittest
from itertools import combinations
from random import Random

from fifthhost.before import covers, fork
from fifthhost.chains import chains, spread
from fifthhost.cluster import Cluster
from fifthhost.dealing import log_of
from fifthhost.errors import BadEntry, BadOrder, BadRecord, TooMany
from fifthhost.lots import works
from fifthhost.making import rule_of
from fifthhost.records import made_record, record_right
from tests.clustersets import FOUR, NETS, some_deed
from tests.common import (BROAD, DEEP, EMPTY, LARGE, NAN, NET_ERRORS, NO_NUMBERS, NO_TUPLES, R, Case, frozen, full_net,
                          linked_net, round_net)
from tests.lettersets import A, B, C, D, E, with_part
from tests.rulesets import RING_RULE, ZERO

NO_INTS = NO_NUMBERS + NO_TUPLES[5:]
# What is wrong at each place of an entry.
WRONG = (
    (True, None, 0, 1.0, "", "01", [], [0, 1], (), (1, 0), (0, 0), (-1, 0), (True,), (0, 1.0), (0, None), ((0,),), (0, NAN), DEEP),
    (True, None, 0, "", [], [0, 0], (), (0,), (0, 0, 0), (0, -1), (True, 0), (0, 1.0), (0, None), ((0,), 0), BROAD, DEEP),
    NO_INTS + (-1, -LARGE),
    NO_INTS + (0, -1, -LARGE),
    NO_INTS + (-1, 1000, LARGE),
    NO_INTS,
    (True, None, 0, "", [], [(0, 0, 1, 1)], (0, 0, 1, 1), ((0, 0, 1),), ((0, 0, 0, 1),), ((0, 0, 1, 0),), ((0, True, 1, 1),),
     ((0, 1, 1, 1), (0, 0, 1, 1)), ((0, 0, 1, 1),) * 2, BROAD, DEEP),
)


def wrong_entries():
    """Entries with one part wrong each, and what is no entry at all."""
    for entry in (A, C):
        for index, things in enumerate(WRONG):
            for thing in things:
                yield with_part(entry, index, thing)
        yield from (entry[:-1], entry + (0,), list(entry), (entry,))
    yield from NO_NUMBERS + NO_TUPLES


def slow_covers(one, two):
    """Whether an entry covers another one, by the words of [47]."""
    pair = [know[2:] for know in one[6] if know[:2] == two[1]] or [(0, 0)]
    return pair[0] >= (two[3], two[2] + 1)


class Records(Case):

    def test_right_records(self):
        for record in ((), (A,), (A, B, C, D, E), (C, C, A), (A,) * 60, ((BROAD[:50], (LARGE, 0), LARGE, LARGE, 999, -LARGE, ()),)):
            self.assertIs(made_record(record), record)
            self.assertIs(made_record(thing=record), record)

    def test_each_part_wrong(self):
        for entry in wrong_entries():
            self.refuses(BadRecord, 0, made_record, (entry,))
            self.refuses(BadRecord, 1, made_record, (A, entry, None))
            self.refuses(BadRecord, 2, fork, (A, A, entry))
            self.refuses(BadRecord, 0, spread, (entry, B))
            self.refuses(BadRecord, 1, chains, (B, entry))
            self.refuses(BadEntry, 0, covers, entry, None)
            self.refuses(BadEntry, 1, covers, A, entry)
            self.tells(False, record_right, R, RING_RULE, (entry,))

    def test_sixty_entries_and_one_more(self):
        for function in (made_record, fork, spread, chains):
            for thing in NO_TUPLES + (None, [], [A], 5):
                self.refuses(BadRecord, -1, function, thing)
            self.refuses(TooMany, 61, function, (A,) * 61)
            self.refuses(TooMany, 61, function, (None,) * 61)
            self.refuses(TooMany, 299000, function, BROAD)
            self.refuses(BadRecord, 59, function, (A,) * 59 + (None,))


class Covers(Case):

    def test_examples(self):
        self.tells(True, covers, C, B)
        for one, two in ((C, A), (B, C), (C, C)):
            self.tells(False, covers, one, two)
        self.tells(True, covers, ((1,), (0, 2), 0, 1, 0, 0, ((0, 1, 3, 1),)), C)
        self.refuses(BadEntry, 1, covers, A, ((), (0, 0), 0, 1, 5, 7, ()))

    def test_at_below_and_above_a_pair(self):
        two = ((0,), (3, 1), 4, 7, 0, 0, ())
        for number in (1, 6, 7, 8, LARGE):
            for length in (1, 4, 5, 6, LARGE):
                for e, l in ((3, 1), (3, 0), (1, 3)):
                    one = ((5,), (0, 0), 0, 1, 0, 0, ((e, l, number, length),))
                    wanted = (e, l) == (3, 1) and (number > 7 or number == 7 and length >= 5)
                    self.tells(wanted, covers, one, two)
        knows = ((0, 0, 9, 9), (3, 0, 9, 9), (3, 1, 7, 5), (3, 2, 1, 1))
        self.tells(True, covers, with_part(one, 6, knows), two)

    def test_itself_and_each_other(self):
        one = ((0,), (0, 0), 0, 1, 0, 0, ((0, 0, 1, 1),))
        self.tells(True, covers, one, one)
        two = with_part(one, 5, 3)
        self.tells(True, covers, one, two)
        self.tells(True, covers, two=one, one=two)

    def test_fork(self):
        for record, told in (((A, B, C), None), ((B, A, A, B), (1, 2)), ((B, A, B, A), (0, 2)), ((), None), ((A,), None),
                             ((A, B, C, C, C, B, A), (2, 3)), ((C, A, B, B, A, C), (2, 3)), ((A,) * 60, (0, 1)),
                             ((A, ((3,), (0, 0), 0, 9, 0, 0, ())), (0, 1)),
                             ((A, with_part(A, 1, (1, 0)), with_part(A, 2, 1), A, A), (0, 3))):
            self.tells(told, fork, record)
            self.tells(told, fork, record=record)

    def test_fork_beside_all_pairs(self):
        for seed in range(60):
            chance = Random(seed)
            record = tuple(((0,), (0, chance.randrange(4)), chance.randrange(6), 1, 0, 0, ()) for _ in range(chance.randint(0, 12)))
            pairs = [(j, i) for i, j in combinations(range(len(record)), 2) if record[i][1:3] == record[j][1:3]]
            self.tells(min(pairs)[::-1] if pairs else None, fork, record)


def slow_order(record):
    """The first pair that stands in no order of time; None if there is none."""
    indices = range(len(record))
    for j in indices:
        for i in range(j):
            if slow_covers(record[i], record[j]):
                return (i, j)
            by_others = any(slow_covers(record[j], record[k]) and slow_covers(record[k], record[i]) for k in indices)
            if by_others and not slow_covers(record[j], record[i]):
                return (i, j)
    return None


def drawn_order(chance, many, wide):
    """A record in an order of time: each entry covers some earlier ones and what these cover, each has its own name."""
    below = []
    for j in range(many):
        told = set()
        for i in chance.sample(range(j), min(j, chance.randint(0, wide))):
            told |= {i} | below[i]
        below.append(told)
    return tuple(((j,), (0, j), 0, 1, 0, j, tuple((0, i, 1, 1) for i in sorted(told))) for j, told in enumerate(below))


class Rows(Case):

    def right(self, record):
        """As many indices as chains, none of them covering another, each chain covering, each index in just one."""
        indices, rows = spread(record), chains(record)
        self.tells(indices, spread, record)
        self.tells(rows, chains, record)
        self.assertEqual(len(indices), len(rows))
        self.assertEqual(list(indices), sorted(set(indices)))
        self.assertFalse(any(slow_covers(record[j], record[i]) or slow_covers(record[i], record[j])
                             for i, j in combinations(indices, 2)))
        self.assertEqual(sorted(i for row in rows for i in row), list(range(len(record))))
        self.assertEqual(list(rows), sorted(rows))
        for row in rows:
            self.assertEqual(list(row), sorted(row))
            self.assertTrue(all(slow_covers(record[j], record[i]) for i, j in combinations(row, 2)))
        return indices, rows

    def test_examples(self):
        self.assertIn(spread((A, B, C)), ((0, 1), (0, 2)))
        self.tells(((0,), (1, 2)), chains, (A, B, C))
        self.tells(((0, 1, 2),), chains, (B, C, D))
        for function in (spread, chains):
            self.refuses(BadOrder, (1, 2), function, (A, C, B))
            self.refuses(BadOrder, (0, 3), function, (B, C, D, E))
            self.tells((), function, ())
            self.tells(function((A, B, C)), function, record=(A, B, C))
        self.right((A, B, C))
        self.right((B, C, D))

    def test_drawn_orders_of_sixty_entries(self):
        for seed in range(40):
            chance = Random(seed)
            record = drawn_order(chance, 60, chance.choice((0, 1, 1, 2, 3, 8)))
            told, _ = self.right(record)
            if seed % 4 == 0:
                small = drawn_order(chance, 9, 2)
                most = max(size for size in range(10) for some in combinations(range(9), size)
                           if not any(slow_covers(small[j], small[i]) for i, j in combinations(some, 2)))
                self.assertEqual(len(self.right(small)[0]), most)
        self.assertEqual(len(self.right(drawn_order(Random(0), 60, 0))[0]), 60)
        row = tuple(((0,), (0, 0), j, 1, 0, 0, ((0, 0, 1, j),) if j else ()) for j in range(60))
        self.tells((tuple(range(60)),), chains, row)
        self.assertEqual(len(self.right(row)[0]), 1)

    def test_chains_that_have_to_be_joined_otherwise(self):
        # 2 covers 0 and 1, 3 covers 0 alone: 0 must not be joined with 2.
        entries = tuple(((0,), (0, j), 0, 1, 0, 0, tuple((0, i, 1, 1) for i in below))
                        for j, below in enumerate(((), (), (0, 1), (0,))))
        self.tells(((0, 3), (1, 2)), chains, entries)
        self.right(entries)

    def test_entries_that_cover_themselves(self):
        one = ((0,), (0, 0), 0, 1, 0, 0, ((0, 0, 1, 1),))
        two = ((0,), (0, 1), 0, 1, 0, 0, ((0, 0, 1, 1), (0, 1, 1, 1)))
        self.tells((0,), spread, (one,))
        self.tells(((0,),), chains, (one,))
        self.tells(((0, 1),), chains, (one, two))
        self.assertEqual(len(self.right((one, two))[0]), 1)
        self.tells(((0,), (1,)), chains, (A, B))

    def test_bad_orders_beside_all_pairs(self):
        sorts = [0, 0, 0]
        for seed in range(300):
            chance = Random(seed)
            names = [(0, chance.randrange(4)) for _ in range(6)]
            record = tuple(((0,), names[j], chance.randrange(3), chance.randint(1, 2), 0, 0,
                            tuple((0, l, chance.randint(1, 2), chance.randint(1, 3)) for l in range(4) if chance.random() < 0.25))
                           for j in range(chance.randint(0, 6)))
            pair = slow_order(record)
            if pair is None:
                self.right(record)
                sorts[0] += 1
                continue
            sorts[1 if slow_covers(record[pair[0]], record[pair[1]]) else 2] += 1
            self.refuses(BadOrder, pair, spread, record)
            self.refuses(BadOrder, pair, chains, record)
        self.assertTrue(all(many > 10 for many in sorts), sorts)

    def test_an_index_between_may_stand_above_both(self):
        # 1 covers 2, which covers 0; 1 does not cover 0.
        record = (((0,), (0, 0), 0, 1, 0, 0, ()), ((0,), (0, 1), 0, 1, 0, 0, ((0, 2, 1, 1),)),
                  ((0,), (0, 2), 0, 1, 0, 0, ((0, 0, 1, 1),)))
        self.refuses(BadOrder, (0, 1), spread, record)
        self.refuses(BadOrder, (0, 1), chains, record)


class Judged(Case):

    def test_examples(self):
        self.tells(True, record_right, R, RING_RULE, (A, B, C))
        self.tells(True, record_right, R, RING_RULE, (A, C))
        self.tells(False, record_right, R, RING_RULE, (C, B))
        entry = ((1, 2), (0, 0), 1, 1, 5, 3, ())
        self.tells(False, record_right, R, RING_RULE, (A, entry))
        self.tells(True, record_right, R, RING_RULE, (A, entry[:6] + (((0, 0, 1, 1),),)))

    def slow_right(self, net, rule, record):
        """Whether a record is right, of a right form, by the words of [64]."""
        indices = range(len(record))
        for entry in record:
            if any(x >= len(net[0]) for x in entry[0]) or not works(net, entry[0]):
                return False
            if entry[1] != (0, log_of(net, rule, entry[0])):
                return False
        known = [[slow_covers(one, two) for two in record] for one in record]
        for i, j in combinations(indices, 2):
            one, two = record[i], record[j]
            if one[1] == two[1] and not (two[2] > one[2] and two[3] >= one[3]):
                return False
            if set(one[0]) & set(two[0]) and not known[j][i]:
                return False
            if known[i][j]:
                return False
        return not any(known[i][i] for i in indices) and not any(
            known[i][j] and known[j][k] and not known[i][k] for i in indices for j in indices for k in indices)

    def clusters(self, rounds):
        """Clusters of which stories were drawn in which no edition is decided."""
        words = """cut cut mend mend mend down up up up wipe restore restore begin begin begin begin put put put put put
        put put put share share""".split()
        for seed in range(rounds):
            chance = Random(seed)
            net = chance.choice(NETS + (round_net((1,) * 9, 2), full_net(6, 2)))
            rule = rule_of(net)
            c = Cluster(net, rule)
            while len(c.record()) < 25 and chance.random() < 0.995:
                word, *args = some_deed(chance, c, words)
                try:
                    getattr(c, word)(*args)
                except ValueError:
                    pass
            yield chance, net, rule, c.record()

    def test_records_that_clusters_told(self):
        most = 0
        for chance, net, rule, record in self.clusters(40):
            self.tells(True, record_right, net, rule, record)
            self.tells(None, fork, record)
            self.assertEqual(len(spread(record)), len(chains(record)))
            most = max(most, len(record))
        self.assertEqual(most, 25)

    def test_the_same_with_one_thing_otherwise(self):
        right, wrong = 0, 0
        for chance, net, rule, record in self.clusters(40):
            for _ in range(60 if record else 0):
                index = chance.randrange(len(record))
                entry = record[index]
                part = chance.randrange(7)
                other = chance.choice(record)[part]
                if part == 6 and entry[6]:
                    gone = chance.randrange(len(entry[6]))
                    other = entry[6][:gone] + entry[6][gone + 1:]
                elif part in (2, 3):
                    other = max(1 if part == 3 else 0, entry[part] + chance.choice((-1, 1)))
                bent = record[:index] + (with_part(entry, part, other),) + record[index + 1:]
                if chance.random() < 0.2:
                    bent = record[:index] + record[index + 1:]
                if chance.random() < 0.1:
                    bent = record[:index] + record[index + 1:index + 2] + record[index:index + 1] + record[index + 2:]
                wanted = self.slow_right(net, rule, bent)
                self.tells(wanted, record_right, net, rule, bent)
                right += wanted
                wrong += not wanted
        self.assertGreater(right, 300)
        self.assertGreater(wrong, 300)

    def test_names_of_other_editions_and_lots_that_do_not_work(self):
        for entry in (with_part(A, 1, (1, 0)), with_part(A, 1, (0, 1)), with_part(A, 0, (0,)), with_part(A, 0, (0, 2)),
                      with_part(A, 0, (0, 5)), with_part(A, 0, (LARGE,)), with_part(A, 0, (0, 1, LARGE))):
            self.tells(False, record_right, R, RING_RULE, (entry,))
        self.tells(True, record_right, R, RING_RULE, (with_part(A, 0, (0, 1, 2)),))
        self.tells(False, record_right, R, ("table", ()), (A,))
        self.tells(True, record_right, R, ("table", ()), ())
        self.tells(True, record_right, R, ("table", (((0, 1), 0),)), (A,))

    def test_entries_that_cover_themselves_or_later_ones(self):
        self.tells(False, record_right, R, RING_RULE, (with_part(A, 6, ((0, 0, 1, 1),)),))
        self.tells(False, record_right, R, RING_RULE, (with_part(A, 6, ((0, 1, 1, 1),)), B))
        self.tells(True, record_right, R, RING_RULE, (with_part(A, 6, ((0, 5, 1, 1),)), B))

    def test_places_and_numbers(self):
        two = ((0, 1), (0, 0), 5, 1, 0, 0, ((0, 0, 9, 9),))
        self.tells(False, record_right, R, RING_RULE, (A, two))
        for place, number, told in ((5, 1, True), (1, 1, True), (0, 1, False), (0, 9, False), (1, 2, True)):
            two = ((0, 1), (0, 0), place, number, 0, 0, ((0, 0, number, place),) if place else ((0, 0, 1, 1),))
            self.tells(told, record_right, R, RING_RULE, (A, two))
        late = with_part(A, 3, 3)
        self.tells(False, record_right, R, RING_RULE, (late, ((0, 1), (0, 0), 1, 2, 0, 0, ((0, 0, 3, 1),))))

    def test_numbers_of_lots_without_a_common_host(self):
        # By a rule that is wrong two lots that are apart have one name, and need not know of one another.
        for number, told in ((3, True), (4, True), (2, False), (1, False)):
            record = (((0, 1), (0, 0), 0, 3, 5, 7, ()), ((2, 3), (0, 0), 1, number, 5, 7, ()))
            self.tells(told, record_right, R, ZERO, record)
        for place, told in ((1, True), (2, True), (0, False)):
            record = (((0, 1), (0, 0), 0, 3, 5, 7, ()), ((2, 3), (0, 0), place, 3, 5, 7, ()))
            self.tells(told, record_right, R, ZERO, record)

    def test_what_is_covered_by_an_entry_that_is_covered(self):
        one = ((0, 4), (0, 2), 0, 1, 5, 1, ())
        two = ((0, 1), (0, 0), 0, 1, 5, 2, ((0, 2, 1, 1),))
        for knows, told in ((((0, 0, 1, 1), (0, 2, 1, 1)), True), (((0, 0, 1, 1),), False)):
            # The lots of the first and the last entry have no common host.
            self.tells(told, record_right, R, RING_RULE, (one, two, ((1, 2), (0, 0), 1, 1, 5, 3, knows)))

    def test_odd_things(self):
        for net, _, _ in NET_ERRORS:
            self.tells(False, record_right, net, ZERO, ())
            self.tells(False, record_right, net, None, None)
        for rule in (None, ("one", -1), ["one", 0], DEEP, BROAD, ("has", 0, 0, ("one",))):
            self.tells(False, record_right, R, rule, ())
        for record in NO_TUPLES + (None, [A], BROAD, DEEP, (A,) * 61, (None,) * 61):
            self.tells(False, record_right, R, RING_RULE, record)
        self.tells(True, record_right, full_net(9), ZERO, ())
        self.tells(False, record_right, full_net(10), ZERO, ())
        self.tells(True, record_right, EMPTY, ZERO, ())
        self.tells(True, record_right, linked_net(2, []), rule=ZERO, record=())

    def test_what_is_handed_in_stays_as_it_was(self):
        args = (R, RING_RULE, (A, B, C))
        ahead = frozen(args)
        record_right(*args)
        fork(args[2])
        spread(args[2])
        chains(args[2])
        self.assertEqual(args, ahead)
        self.assertEqual(FOUR, full_net(4))


if __name__ == "__main__":
    unittest.main()
