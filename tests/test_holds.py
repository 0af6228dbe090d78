"""What holds in every story of a cluster with a right rule, without restores and forget, [0.3] (d)."""

import unittest
from itertools import combinations
from random import Random

from fifthhost.before import covers, fork
from fifthhost.chains import chains, spread
from fifthhost.cluster import Cluster
from fifthhost.counts import once
from fifthhost.errors import Refused
from fifthhost.judged import is_right
from fifthhost.making import rule_of
from tests.clustersets import DEEDS, NETS, some_deed
from tests.common import Case, full_net, hubs_net, round_net, slow_working
from tests.rulesets import slow_log

OTHERS = (round_net((1,) * 7, 3), full_net(6, 2), hubs_net(6, 3), round_net((1, 0, 2, 1, 1, 2), 3))


class Holds(Case):

    def rows_of(self, net, edition, rules):
        """The net of an edition, and its working lots by their logs."""
        if edition not in rules:
            one = (edition[0], net[1], edition[1])
            rule = rule_of(one)
            self.assertTrue(is_right(one, rule))
            by_log = {}
            for lot in slow_working(one):
                by_log.setdefault(slow_log(dict(enumerate(one[0])), rule, set(lot)), []).append(set(lot))
            rules[edition] = (one, by_log)
        return rules[edition]

    def check_read(self, c, seen, rules):
        """Each part that meets all lots of a log is told all done rows of it."""
        for part in c.parts():
            for lot, name, place, number, key, value, knows in c.record():
                _, by_log = self.rows_of(c.net, seen[name[0]], rules)
                if all(other & set(part) for other in by_log[name[1]]):
                    rows, sure = c.read(part[0], name)
                    self.assertLess(place, len(rows))
                    self.assertEqual(rows[place], (number, key, value, knows))
                    self.assertLessEqual(sure, len(rows))

    def check_record(self, c, seen, rules):
        """What is said of the done rows alone."""
        record = c.record()
        self.assertIsNone(fork(record[-60:]))
        spots = [entry[1:3] for entry in record]
        self.assertEqual(len(spots), len(set(spots)))
        for one, two in combinations(record, 2):
            if set(one[0]) & set(two[0]):
                self.assertTrue(covers(two, one), (one, two))
        for e, edition in enumerate(seen):
            rows = tuple(entry for entry in record if entry[1][0] == e)
            most = once(self.rows_of(c.net, edition, rules)[0])
            self.assertLessEqual(len(spread(rows[-60:])), most)
            self.assertLessEqual(len(chains(rows[-60:])), most)

    def story(self, net, seed, rounds, words):
        """A story that is drawn, in which all is checked behind each deed; how many rows and editions it has."""
        chance = Random(seed)
        c = Cluster(net, rule_of(net))
        rules, seen = {}, list(c.editions())
        for _ in range(rounds):
            word, *args = some_deed(chance, c, words)
            if word == "change" and len(c.record()) < 4 * len(seen):
                continue
            many = len(c.record())
            try:
                getattr(c, word)(*args)
            except Refused:
                continue
            # An edition stays what it was, also when those who know it are gone.
            told = list(c.editions())
            self.assertEqual(told[:len(seen)], seen[:len(told)])
            seen = max(told, seen, key=len)
            if len(c.record()) > many:
                self.check_record(c, seen, rules)
            self.check_read(c, seen, rules)
        return len(c.record()), len(seen)

    def test_drawn_stories(self):
        rows, editions = 0, 0
        for seed, net in enumerate((NETS + OTHERS) * 3):
            told = self.story(net, seed, 240, DEEDS)
            rows += told[0]
            editions += told[1] - 1
        self.assertGreater(rows, 300)
        self.assertGreater(editions, 30)

    def test_stories_with_many_wipes_and_restores(self):
        words = DEEDS + ["wipe", "restore", "up", "restore"] * 4
        for seed, net in enumerate(NETS + OTHERS):
            self.story(net, 100 + seed, 300, words)


if __name__ == "__main__":
    unittest.main()
