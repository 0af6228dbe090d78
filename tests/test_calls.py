"""Calls of all functions, [0.1] and [0.2]: names of arguments, wrong nets first, nothing changed, plain results."""

import importlib
import inspect
import unittest
from itertools import permutations

from fifthhost import errors
from tests.common import BROAD, DEEP, FULL_40, NAN, NET_ERRORS, R, S, TEN, TRIANGLES, Case, alike, frozen, plain
from tests.housesets import H, WHOLE_R
from tests.lettersets import A, B, C, STORY
from tests.rulesets import RING_RULE, SEAM_RULE

RESTORES = ((2, (3,)),)
EVENTS = (("begin", 0, None), ("put", 0, 5, -7, 11), ("change", 1, (1,) * 5, 3, None), ("read", 0, 0, 0), ("cut", 0, 2))
MOMENTS = (WHOLE_R, ((0, 1), (2, 3, 4)), ((1, 2),))

# For each file its functions, each with the names of its arguments, right ones, and wrong ones for all but the net.
FUNCTIONS = {
    "nets": {
        "made_net": ("thing", (R,), ()),
        "is_net": ("thing", (R,), ()),
    },
    "netedits": {
        "with_votes": ("net x votes", (R, 1, 7), (5, -1)),
        "with_need": ("net need", (R, 7), (0,)),
        "with_link": ("net a b", (R, 3, 1), (5, 5)),
        "without_link": ("net a b", (R, 2, 1), (5, 5)),
        "with_host": ("net votes", (R, 7), (-1,)),
        "cut_net": ("net lot", (R, (0, 3, 4)), ([0],)),
        "without_host": ("net x", (R, 3), (5,)),
        "renamed": ("net order", (R, (1, 0, 2, 4, 3)), ([0],)),
        "beside": ("one two", (R, R), (None,)),
    },
    "lots": {
        "made_lot": ("net thing", (R, (0, 2)), ([0],)),
        "votes_of": ("net lot", (R, (0, 2)), ([0],)),
        "hangs": ("net lot", (R, (0, 1)), ([0],)),
        "works": ("net lot", (R, (0, 1)), ([0],)),
        "pieces": ("net lot", (R, (0, 1, 3)), ([0],)),
        "whole": ("net", (R,), ()),
        "apart": ("one two", ((0, 1), (2, 3)), ()),
    },
    "listing": {
        "lots": ("net", (S,), ()),
        "working": ("net", (S,), ()),
        "least_working": ("net", (R,), ()),
    },
    "blocks": {
        "cuts": ("net", (TRIANGLES,), ()),
        "blocks": ("net", (TRIANGLES,), ()),
        "kind": ("net block", (TRIANGLES, (2, 3, 4)), ([0],)),
        "round_of": ("net block", (R, (0, 1, 2, 3, 4)), ([0],)),
        "hubs_of": ("net block", (((1,) * 5, ((0, 1), (0, 3), (0, 4), (1, 2), (2, 3), (2, 4)), 2), (0, 1, 2, 3, 4)),
                    ([0],)),
    },
    "longrings": {
        "ring_right": ("net thing", (R, (1, 2, 3, 4, 0)), ([0],)),
        "some_ring": ("net", (TRIANGLES,), ()),
        "long_ring": ("net", (FULL_40,), ()),
    },
    "walks": {
        "walk": ("votes need", ((1, 1, 1, 2, 1), 2), ([0],)),
        "ring_numbers": ("votes need t", ((1, 1, 1, 2, 1), 2, 3), (2, [0])),
        "ring_deal": ("votes need t begin", ((1, 1, 1, 2, 1), 2, 3, 4), (2, 3, [0])),
    },
    "hues": {
        "fewest": ("many pairs", (5, R[1]), ([(0, 1)],)),
        "hued": ("many pairs k", (5, R[1], 4), (R[1], [4])),
    },
    "packings": {
        "packing": ("net", (TEN,), ()),
        "packing_right": ("net lots", (R, ((2, 3), (0, 1))), ([(0, 1)],)),
    },
    "seams": {
        "is_seam": ("net v side", (TRIANGLES, 2, (3, 4)), (2, [3, 4])),
        "inner": ("net v side which", (TEN, 5, (6, 7, 8, 9), "logs"), (5, [6], ["logs"])),
        "threshold": ("net v side which", (TEN, 5, (6, 7, 8, 9), "once"), (5, [6], ["logs"])),
        "beyond": ("net v side which", (TEN, 5, (6, 7, 8, 9), "logs"), ([5], [6], ["logs"])),
    },
    "counts": {
        "once": ("net", (TEN,), ()),
        "logs": ("net", (TEN,), ()),
    },
    "several": {
        "each": ("net t", (R, 3), ([0],)),
    },
    "rules": {
        "made_rule": ("net thing", (R, RING_RULE), (["one", 0],)),
        "is_rule": ("net thing", (R, RING_RULE), (["one", 0],)),
    },
    "dealing": {
        "log_of": ("net rule lot", (TRIANGLES, SEAM_RULE, (2, 3)), (["one", 0], [2, 3])),
    },
    "making": {
        "rule_of": ("net", (TEN,), ()),
    },
    "judged": {
        "used": ("net rule", (R, RING_RULE), (["one", 0],)),
        "clash": ("net rule", (R, ("one", 7)), (["one", 0],)),
        "is_right": ("net rule", (R, RING_RULE), (["one", 0],)),
    },
    "hardlots": {
        "hard": ("net", (R,), ()),
        "is_hard": ("net lots k", (R, ((2, 3), (0, 1)), 1), ([(2, 3)], 0)),
    },
    "readers": {
        "meets_all": ("net lot", (R, (0, 2, 4)), ([0],)),
        "unseen": ("net lot", (R, (1, 3)), ([0],)),
        "commands": ("net lot", (R, (0, 1, 2, 3)), ([0],)),
        "meets_log": ("net rule lot l", (R, RING_RULE, (1, 3), 2), (["one", 0], [0], [0])),
    },
    "captains": {
        "captains": ("net", (R,), ()),
    },
    "houses": {
        "made_house": ("net thing", (R, H), ([H],)),
    },
    "playing": {
        "made_moments": ("net thing", (R, MOMENTS), ([WHOLE_R],)),
        "play": ("net house moments", (R, H, MOMENTS), ([H], [WHOLE_R])),
        "forked": ("net house moments", (R, H, MOMENTS), ([H], [WHOLE_R])),
    },
    "breaker": {
        "broken": ("net house", (R, H), ([H],)),
        "shattered": ("net lots", (R, ((0, 1), (2, 3))), ([(0, 1)],)),
    },
    "cells": {
        "knows_right": ("thing", (((0, 0, 1, 2), (0, 1, 1, 1)),), ()),
        "row_right": ("thing", ((1, 5, -7, ((0, 0, 1, 2),)),), ()),
        "cell_right": ("thing", ((3, 2, (0, 2), ((1, 5, -7, ()),), 1),), ()),
    },
    "disks": {
        "made_letters": ("thing", (STORY,), ()),
        "replay": ("letters", (STORY,), ()),
    },
    "restores": {
        "made_restores": ("net thing", (R, RESTORES), ([(2, (1,))],)),
        "allowed": ("net x lot", (R, 2, (0, 1, 3, 4)), ([2], [0])),
        "lost": ("net restores lot", (R, RESTORES, (1, 2)), ([(2, (3,))], [0])),
        "loss": ("net restores lot", (R, RESTORES, (1, 2)), ([(2, (3,))], [0])),
        "loss_right": ("net restores lot row", (R, RESTORES, (1, 2), RESTORES), ([(2, (3,))], [0], [(2, (3,))])),
        "harmful": ("net rule restores", (R, ("one", 4), RESTORES), (["one", 0], [(2, (3,))])),
        "forgetful": ("net restores", (R, RESTORES), ([(2, (3,))],)),
    },
    "before": {
        "covers": ("one two", (C, B), ()),
        "fork": ("record", ((B, A, B, A),), ()),
    },
    "chains": {
        "spread": ("record", ((A, B, C),), ()),
        "chains": ("record", ((A, B, C),), ()),
    },
    "records": {
        "made_record": ("thing", ((A, B, C),), ()),
        "record_right": ("net rule record", (R, RING_RULE, (A, B, C)), (["one", 0], [(A, B, C)])),
    },
    "events": {
        "made_story": ("thing", (EVENTS,), ()),
    },
    "stories": {
        "run": ("net rule story", (R, RING_RULE, EVENTS), (["one", 0], [EVENTS])),
    },
    "nettexts": {
        "net_text": ("net", (TEN,), ()),
        "read_net": ("text", ("need 2\nhost 0 votes 1",), ()),
    },
    "ruletexts": {
        "rule_text": ("net rule", (TRIANGLES, SEAM_RULE), (["one", 0],)),
        "read_rule": ("net text", (R, "has 0 1 ( table )"), (["one 0"],)),
    },
    "storytexts": {
        "story_text": ("story", (EVENTS,), ()),
        "read_story": ("text", ("begin 0\nput 0 5 7",), ()),
    },
    "lettertexts": {
        "letters_text": ("letters", (STORY,), ()),
        "read_letters": ("text", ("hear none\nhear none",), ()),
    },
}
JUDGES = ("is_net", "ring_right", "packing_right", "is_seam", "is_rule", "is_right", "is_hard", "allowed", "loss_right",
          "record_right")
# The classes of the interface, each with its file, the arguments of its methods, and what it is made of.
CLASSES = {
    "Falling": ("falling", {"parts": "", "reserve": "x", "log": "x", "cut": "a b"}, (R,)),
    "Cluster": ("cluster", {
        "cut": "a b", "mend": "a b", "down": "x", "up": "x", "wipe": "x", "parts": "", "part": "x", "state": "x", "link": "a b",
        "edition": "x", "cell": "x name", "heard": "x", "begin": "x letters", "put": "x key value letters", "share": "x",
        "read": "x name", "known": "x", "show": "x key", "final": "name number place", "record": "",
        "change": "x votes need letters", "book": "x e", "editions": "", "sealed": "e", "ends": "e", "restore": "x y",
        "letters": "x", "forget": "x"}, (R, RING_RULE, RESTORES)),
    "Desk": ("desk", {"say": "row"}, ()),
}
NO_NET_WANTED = JUDGES + ("apart", "walk", "ring_numbers", "ring_deal", "fewest", "hued", "knows_right", "row_right",
                          "cell_right", "made_letters", "replay", "covers", "fork", "spread", "chains", "made_record", "made_story",
                          "read_net", "story_text", "read_story", "letters_text", "read_letters")
# What is right nowhere.
ODD = (None, 1.5, NAN, "", "one", [], [()], [1, [2]], DEEP, BROAD)


def functions():
    """All functions of the files that are written, as (file, name, function, names, right ones, wrong ones)."""
    for file, rows in FUNCTIONS.items():
        module = importlib.import_module("fifthhost." + file)
        for name, (names, right, wrong) in rows.items():
            yield file, name, getattr(module, name), names.split(), right, wrong


class Calls(Case):

    def test_each_is_defined_in_its_file_with_these_names(self):
        for file, name, function, names, _, _ in functions():
            self.assertTrue(inspect.isfunction(function), name)
            self.assertEqual((function.__module__, function.__name__), ("fifthhost." + file, name))
            told = inspect.signature(function).parameters.values()
            self.assertEqual([one.name for one in told], names)
            for one in told:
                self.assertEqual((one.kind, one.default), (one.POSITIONAL_OR_KEYWORD, one.empty))

    def test_by_position_by_name_and_mixed(self):
        for _, name, function, names, right, _ in functions():
            wanted = function(*right)
            for first in range(len(names) + 1):
                rest = list(zip(names, right))[first:]
                for row in permutations(rest):
                    self.assertTrue(alike(function(*right[:first], **dict(row)), wanted), name)

    def test_what_is_returned_is_plain_and_the_same_again(self):
        for _, name, function, _, right, _ in functions():
            told = function(*right)
            self.assertTrue(plain(told), name)
            self.assertTrue(alike(function(*frozen(right)), told), name)

    def test_what_is_handed_in_stays_as_it_was(self):
        for _, name, function, _, right, wrong in functions():
            for args in (right, right[:1] + wrong if wrong else right):
                ahead = frozen(args)
                try:
                    function(*args)
                except errors.Refused:
                    pass
                self.assertTrue(alike(args, ahead), name)

    def test_wrong_lists_stay_as_they_were(self):
        for _, name, function, names, right, _ in functions():
            if name in NO_NET_WANTED:
                continue
            for net in ([[2, 1], [(1, 0), (0, 1)], 1], ([2, 1], [], 1), ((1, [3, 2]), [], []), ((1, 1), ([1, 0],), 1)):
                ahead = frozen(net)
                with self.assertRaises(errors.Refused):
                    function(net, *right[1:])
                self.assertTrue(alike(net, ahead), name)

    def test_wrong_nets_are_told_first(self):
        for _, name, function, names, right, wrong in functions():
            if name in NO_NET_WANTED:
                continue
            for net, error, what in NET_ERRORS:
                self.refuses(getattr(errors, error), what, function, net, *right[1:])
                if wrong:
                    self.refuses(getattr(errors, error), what, function, net, *wrong)
                    self.refuses(getattr(errors, error), what, function, **dict(zip(names, (net,) + wrong)))

    def test_the_second_net_of_beside(self):
        beside = importlib.import_module("fifthhost.netedits").beside
        for net, error, what in NET_ERRORS:
            self.refuses(getattr(errors, error), what, beside, R, net)

    def test_nothing_is_refused_by_judges(self):
        for _, name, function, names, right, wrong in functions():
            if name in JUDGES:
                self.tells(True, function, *right)
                for net, _, _ in NET_ERRORS:
                    self.tells(False, function, net, *right[1:])
                    if wrong:
                        self.tells(False, function, net, *wrong)
                        self.tells(False, function, right[0], *wrong)

    def test_judges_answer_false_of_odd_things_in_any_place(self):
        judges = [row for row in functions() if row[1].startswith("is_") or row[1].endswith("_right") or row[1] == "allowed"]
        self.assertEqual({row[1] for row in judges}, set(JUDGES) | {"knows_right", "row_right", "cell_right"})
        for _, name, function, _, right, _ in judges:
            self.tells(True, function, *right)
            for index in range(len(right)):
                for odd in ODD:
                    self.tells(False, function, *right[:index], odd, *right[index + 1:])
                    self.tells(False, function, *[odd] * len(right))

    def test_classes(self):
        for name, (file, methods, args) in CLASSES.items():
            one = getattr(importlib.import_module("fifthhost." + file), name)
            self.assertEqual((one.__module__, one.__name__), ("fifthhost." + file, name))
            self.assertIn("__init__", vars(one))
            self.assertIsInstance(one(*args), one)
            for method, words in methods.items():
                self.assertTrue(inspect.isfunction(vars(one)[method]), method)
                told = list(inspect.signature(vars(one)[method]).parameters.values())[1:]
                self.assertEqual(" ".join(parameter.name for parameter in told), words)
                for parameter in told:
                    wanted = None if parameter.name == "letters" else parameter.empty
                    self.assertEqual((parameter.kind, parameter.default), (parameter.POSITIONAL_OR_KEYWORD, wanted))

    def test_the_same_again_with_other_calls_between(self):
        rows = [(function, right) for _, _, function, _, right, _ in functions()]
        told = [function(*right) for function, right in rows]
        again = [function(*right) for function, right in rows[::-1]][::-1]
        self.assertTrue(alike(told, again))


if __name__ == "__main__":
    unittest.main()
