"""Rules, [26] to [28]."""

import unittest

from fifthhost.errors import BadRule, TooMany
from fifthhost.rules import is_rule, made_rule
from tests.common import (BARE_40, BROAD, DEEP, EMPTY, FULL_40, LARGE, NET_ERRORS, NO_NUMBERS, NO_TUPLES, ONE, R,
                          TRIANGLES, Case, nested)
from tests.rulesets import (RIGHT, RING_RULE, SEAM_RULE, ZERO, nested_has, parts_of, replaced, rule_with, wrong_parts)

AROUND = ("has", 4, 0, ("seam", 1, (0,), 0, 0, ("has", 0, 1, ZERO), RING_RULE))
EXAMPLES = (
    (("has", 9, 0, 5), ()),
    (("has", 4, 0, 5), (3,)),
    (("has", 4, 0, ("seam", 1, (0,), 0, 0, ("one", 0), ("one", 1000))), (3, 6)),
    (("table", (((0, 1), 0), ((2,), 0))), ()),
    (("ring", (0, 1, 2), (0, 2), 3, 0), ()),
)


class Rules(Case):

    def right(self, net, rule):
        """The rule is one, and what is returned is what was handed in."""
        self.assertIs(made_rule(net, rule), rule)
        self.tells(True, is_rule, net, rule)

    def wrong(self, error, what, net, rule):
        """The rule is refused so."""
        self.refuses(error, what, made_rule, net, rule)
        self.tells(False, is_rule, net, rule)

    def test_examples(self):
        for rule, path in EXAMPLES:
            self.wrong(BadRule, path, R, rule)
        self.right(R, nested_has(60))
        self.assertEqual(list(parts_of(nested_has(60)))[-1], ((3,) * 60, ZERO))
        self.wrong(BadRule, (3,) * 61, R, nested_has(61))

    def test_right_rules_of_each_kind(self):
        for rule in RIGHT:
            self.right(R, rule)
            for path, _ in parts_of(AROUND):
                self.right(R, replaced(AROUND, path, rule))
        self.right(R, RING_RULE)
        self.right(TRIANGLES, SEAM_RULE)

    def test_what_is_not_asked(self):
        # Neither seams nor rings of the net, nor lots that work, nor needs of any size.
        for rule in (("seam", 0, (2, 3), 0, 0, ZERO, ZERO), ("ring", (0, 2, 4), (1,), 1, 0), ("ring", (0, 2, 1), (0,), 1, 0),
                     ("table", (((0, 2), 0), ((1, 3), 5))), ("seam", 3, (0,), LARGE, LARGE, ZERO, ZERO)):
            self.right(R, rule)

    def test_each_wrong_part_at_each_place(self):
        for part in wrong_parts():
            self.wrong(BadRule, (), R, part)
            self.wrong(BadRule, (3, 5, 3), R, replaced(AROUND, (3, 5, 3), part))
        for part in (None, ("one", True), ["one", 0], ("has", 5, 0, ZERO), ("table", ((),))):
            for path, _ in parts_of(AROUND):
                self.wrong(BadRule, path, R, replaced(AROUND, path, part))

    def test_of_other_nets(self):
        self.right(FULL_40, ("has", 39, 0, ("ring", tuple(range(39, -1, -1)), tuple(range(40)), 40, 0)))
        self.wrong(BadRule, (), FULL_40, ("has", 40, 0, ZERO))
        self.wrong(BadRule, (), FULL_40, ("ring", tuple(range(40)), (40,), 1, 0))
        self.right(ONE, ("has", 0, 0, ("table", (((0,), 0),))))
        self.wrong(BadRule, (), ONE, ("seam", 0, (1,), 0, 0, ZERO, ZERO))
        self.right(EMPTY, ZERO)
        self.right(EMPTY, ("table", ()))
        for rule in (("has", 0, 0, ZERO), ("table", (((0,), 0),)), ("ring", (0, 1, 2), (0,), 1, 0)):
            self.wrong(BadRule, (), EMPTY, rule)

    def test_the_first_wrong_part_is_told(self):
        bad = ("has", 5, 0, ("one", 1000))
        self.wrong(BadRule, (), R, bad)
        self.wrong(BadRule, (3,), R, ("has", 4, 0, bad))
        seam = ("seam", 1, (0,), 0, 0, ("has", 1, 0, 5), ("one", 1000))
        self.wrong(BadRule, (5, 3), R, seam)
        self.wrong(BadRule, (6,), R, replaced(seam, (5, 3), ZERO))
        self.wrong(BadRule, (), R, seam[:1] + (5,) + seam[2:])
        for ahead, behind in ((path, other) for path, _ in parts_of(AROUND) for other, _ in parts_of(AROUND)):
            if ahead < behind and behind[:len(ahead)] != ahead:
                self.wrong(BadRule, ahead, R, replaced(replaced(AROUND, ahead, None), behind, None))

    def test_paths_of_60_and_61_indices(self):
        self.right(R, nested_has(60))
        for part in (ZERO, None, ("one", 1000), nested_has(1), nested_has(18), DEEP, BROAD):
            self.wrong(BadRule, (3,) * 61, R, replaced(nested_has(61), (3,) * 61, part))
        self.wrong(BadRule, (3,) * 60, R, replaced(nested_has(61), (3,) * 60, ("has", 5, 0, ZERO)))
        seams = ZERO
        for step in range(60):
            seams = ("seam", 0, (1,), 0, 0, ZERO, seams) if step % 2 else ("seam", 0, (1,), 0, 0, seams, ZERO)
        self.right(R, seams)
        path = (6, 5) * 30
        self.wrong(BadRule, path + (3,), R, replaced(seams, path, ("has", 0, 0, ZERO)))

    def test_400_and_401_parts(self):
        for many in (1, 2, 3, 399, 400):
            self.assertEqual(len(list(parts_of(rule_with(many)))), many)
            self.right(R, rule_with(many))
        for many in (401, 402, 800):
            self.wrong(TooMany, 401, R, rule_with(many))

    def test_wrong_parts_ahead_of_the_401st_and_there(self):
        for rule in (rule_with(400), rule_with(401), rule_with(600)):
            for index, (path, _) in enumerate(parts_of(rule)):
                for part in (None, ("one", 1000), ("has", 5, 0, ZERO)):
                    error, what = (BadRule, path) if index < 400 else (TooMany, 401)
                    self.wrong(error, what, R, replaced(rule, path, part))

    def test_the_401st_part_with_a_path_of_61_indices(self):
        for further, index in ((280, 399), (281, 400)):
            rule = ("has", 0, 0, ("has", 0, 0, ZERO))
            for _ in range(59):
                rule = ("seam", 0, (1,), 0, 0, ZERO, rule)
            rule = ("seam", 0, (1,), 0, 0, rule_with(further - 1), rule)
            path = (6,) * 60 + (3,)
            self.assertEqual([met for met, _ in parts_of(rule)].index(path), index)
            self.wrong(*((BadRule, path) if index == 399 else (TooMany, 401)), R, rule)

    def test_shared_parts_count_as_often_as_they_stand(self):
        rule = ZERO
        for _ in range(7):
            rule = ("seam", 0, (1,), 0, 0, rule, rule)
        self.right(R, rule)
        for _ in range(40):
            rule = ("seam", 0, (1,), 0, 0, rule, rule)
        self.wrong(TooMany, 401, R, rule)

    def test_whatever_is_handed_in(self):
        for thing in NO_NUMBERS + NO_TUPLES + (BROAD, (BROAD,) * 2, nested(80), {}, set(), b"one"):
            self.wrong(BadRule, (), R, thing)

    def test_wrong_nets(self):
        for net, _, _ in NET_ERRORS:
            for rule in (ZERO, None, ("one", 1000)):
                self.tells(False, is_rule, net, rule)

    def test_large_tables(self):
        lots = tuple(((a, b, c), 0) for a in range(38) for b in range(a + 1, 39) for c in range(b + 1, 40))
        self.right(BARE_40, ("table", lots))
        self.wrong(BadRule, (), BARE_40, ("table", lots + lots[-1:]))


if __name__ == "__main__":
    unittest.main()
