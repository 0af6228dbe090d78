"""The desk, [74], rows that change the net, [75], and rows that ask, [76]."""

import re
import unittest
from random import Random

from fifthhost.blocks import blocks, cuts, kind
from fifthhost.captains import captains
from fifthhost.counts import logs, once
from fifthhost.dealing import log_of
from fifthhost.desk import Desk
from fifthhost.errors import BadText, Refused
from fifthhost.longrings import long_ring
from fifthhost.lots import works
from fifthhost.making import rule_of
from fifthhost.netedits import with_host, with_link, with_need, with_votes, without_host, without_link
from fifthhost.nettexts import net_text
from fifthhost.packings import packing
from fifthhost.readers import commands, unseen
from fifthhost.ruletexts import rule_text
from fifthhost.seams import inner, threshold
from fifthhost.several import each
from tests.clustersets import outcome
from tests.common import LARGE, R, RINGS, TEN, TRIANGLES, Case, chained, full_net, hubs_net, linked_net, round_net, some_nets
from tests.textsets import FORTY, is_number
from tests.textsets import NO_NUMBERS as NO_WORDS

EXAMPLE = """host a 1=host 0;host b 1=host 1;host c 1=host 2;host d 1=host 3;host e 1=host 4;need 2=need;link a b=link;link c b=link
link c d=link;link d e=link;link a e=link;once=2;logs=3;each 2=5;cuts=none;blocks=ring a b c d e;works b a=yes;works a c=no
commands a b c=no;commands a b c d=yes;unseen b a=c d e;unseen a c e=none;log a c=refused NotWorking;each 100=refused BadTimes
seam a once b=refused BadSeam;seam a once a b=refused BadSeam;host a 1=refused Same;link a a=refused Same;link b a=refused Already
unlink a c=refused NoLink;redo=refused NothingToRedo;=wrong 0;Once=wrong 0;open=wrong 0;host A 1=wrong 1;host none 1=wrong 1
need 0=wrong 1;each 0=wrong 1;once =wrong 1;works=wrong 1;undo 1=wrong 1;host f=wrong 2;host f 01=wrong 2;link a f=wrong 2
works a a=wrong 2;seam a most b=wrong 2;votes e 0=votes;undo=undo;redo=redo;undo=undo;drop c=drop;redo=refused NothingToRedo
once=2;logs=2;long=none;packing=a b - d e;blocks=link a b - link a e - link d e;cuts=a e;seam a once b=inner 0 least 1"""
KINDS = {"host": "F0", "votes": "H0", "need": "1", "link": "HH", "unlink": "HH", "drop": "H", "undo": "", "redo": "", "once": "",
         "logs": "", "each": "1", "long": "", "cuts": "", "captains": "", "blocks": "", "packing": "", "rule": "", "net": "",
         "log": "S", "works": "S", "commands": "S", "unseen": "S", "seam": "HWS"}
EDITS = ("host", "votes", "need", "link", "unlink", "drop")
NO_ROWS = (None, True, 0, 1.0, b"once", [], ["once"], ("once",), (), LARGE, "x" * 2001, " " * 2001, "once" + " " * 1997)


class Model:
    """A desk by the words of [74] to [76]: its states one behind another, and at which of them it is."""

    def __init__(self):
        self.states, self.at = [([], ((), (), 1))], 0

    def right(self, sign, word, ahead):
        """Whether a word can stand where a part of this sort is wanted."""
        names = self.states[self.at][0]
        if sign == "F":
            return bool(re.fullmatch("[a-z]{1,12}", word)) and word != "none"
        if sign in "01":
            return is_number(word, int(sign))
        if sign == "W":
            return word in ("logs", "once")
        return word in names and word not in ahead

    def wrong(self, row):
        """The index of the wrong word of a row; None if there is none."""
        words = row.split(" ")
        if words[0] not in KINDS:
            return 0
        signs = KINDS[words[0]]
        if signs.endswith("S"):
            signs = signs[:-1] + "S" * max(1, len(words) - len(signs))
        for index, sign in enumerate(signs, start=1):
            ahead = words[1 + signs.index("S"):index] if sign == "S" else ()
            if index >= len(words) or not self.right(sign, words[index], ahead):
                return index
        return None if len(words) == 1 + len(signs) else 1 + len(signs)

    def say(self, row):
        wrong = self.wrong(row)
        if wrong is not None:
            return f"wrong {wrong}"
        try:
            return self.told(*row.split(" "))
        except Refused as refused:
            return f"refused {type(refused).__name__}"

    def told(self, word, *parts):
        names, net = self.states[self.at]
        if word == "undo":
            if self.at == 0:
                return "refused NothingToUndo"
            self.at -= 1
        elif word == "redo":
            if self.at + 1 == len(self.states):
                return "refused NothingToRedo"
            self.at += 1
        elif word in EDITS:
            if word == "host" and parts[0] in names:
                return "refused Same"
            state = self.edited(list(names), net, word, parts)
            self.states = (self.states[:self.at + 1] + [state])[-101:]
            self.at = len(self.states) - 1
            return f"host {len(names)}" if word == "host" else word
        else:
            return self.asked(names, net, word, parts)
        return word

    def edited(self, names, net, word, parts):
        if word == "host":
            return (names + [parts[0]], with_host(net, int(parts[1])))
        if word == "need":
            return (names, with_need(net, int(parts[0])))
        x = names.index(parts[0])
        if word == "votes":
            return (names, with_votes(net, x, int(parts[1])))
        if word == "drop":
            return (names[:x] + names[x + 1:], without_host(net, x))
        return (names, {"link": with_link, "unlink": without_link}[word](net, x, names.index(parts[1])))

    def asked(self, names, net, word, parts):
        def many(hosts):
            return " ".join(names[x] for x in hosts or ()) or "none"

        def lot(words):
            return tuple(sorted(map(names.index, words)))

        return {
            "once": lambda: str(once(net)), "logs": lambda: str(logs(net)), "each": lambda: str(each(net, int(parts[0]))),
            "long": lambda: many(long_ring(net)), "cuts": lambda: many(cuts(net)), "captains": lambda: many(captains(net)),
            "blocks": lambda: " ; ".join(f"{kind(net, block)} {many(block)}" for block in blocks(net)) or "none",
            "packing": lambda: " ; ".join(map(many, packing(net))) or "none",
            "rule": lambda: rule_text(net, rule_of(net)), "net": lambda: net_text(net),
            "log": lambda: str(log_of(net, rule_of(net), lot(parts))),
            "works": lambda: "yes" if works(net, lot(parts)) else "no",
            "commands": lambda: "yes" if commands(net, lot(parts)) else "no",
            "unseen": lambda: many(unseen(net, lot(parts))),
            "seam": lambda: "inner {} least {}".format(*(function(net, names.index(parts[0]), lot(parts[2:]), parts[1])
                                                         for function in (inner, threshold))),
        }[word]()


def rows_of(net, names=None):
    """The rows that make a net at a new desk."""
    names = names or [name_of(x) for x in range(len(net[0]))]
    return ([f"host {name} {votes}" for name, votes in zip(names, net[0])] + [f"need {net[2]}"]
            + [f"link {names[a]} {names[b]}" for a, b in net[1]])


def name_of(x):
    return "abcdefgh"[x // 8] + "klmnopqr"[x % 8]


class Desks(Case):

    def at_desk(self, net, names=None):
        """A desk that has a net, and the model of it."""
        desk, model = Desk(), Model()
        for row in rows_of(net, names):
            self.both(desk, model, row)
        self.assertEqual(desk.say("net"), net_text(net))
        return desk, model

    def both(self, desk, model, row):
        wanted = model.say(row)
        self.tells(wanted, desk.say, row)
        return wanted

    def test_example(self):
        desk, model = Desk(), Model()
        for line in EXAMPLE.replace("\n", ";").split(";"):
            row, told = line.rsplit("=", 1)
            self.assertEqual(self.both(desk, model, row), told.replace(" - ", " ; "), row)
            if row == "drop c":
                net = "need 2\nhost 0 votes 1\nhost 1 votes 1\nhost 2 votes 1\nhost 3 votes 1\nlink 0 1\nlink 0 3\nlink 2 3"
                self.tells("refused NothingToRedo", desk.say, "redo")
                self.tells(net, desk.say, "net")

    def test_at_first(self):
        desk = Desk()
        for row, told in (("net", "need 1"), ("once", "0"), ("logs", "0"), ("each 99", "0"), ("long", "none"), ("cuts", "none"),
                          ("captains", "none"), ("blocks", "none"), ("packing", "none"), ("rule", "one 0"),
                          ("undo", "refused NothingToUndo"), ("redo", "refused NothingToRedo"), ("works a", "wrong 1"),
                          ("drop none", "wrong 1"), ("seam a once b", "wrong 1"), ("need 1", "need"), ("undo", "undo")):
            self.tells(told, desk.say, row)

    def test_names(self):
        desk = Desk()
        for row, told in (("host a 0", "host 0"), ("host abcdefghijkl 1", "host 1"), ("host abcdefghijklm 1", "wrong 1"),
                          ("host none 1", "wrong 1"), ("host nones 1", "host 2"), ("host A 1", "wrong 1"), ("host aB 1", "wrong 1"),
                          ("host a1 1", "wrong 1"), ("host a_b 1", "wrong 1"), ("host  1", "wrong 1"), ("host a\t 1", "wrong 1"),
                          ("host \u00e4 1", "wrong 1"), ("host \u0430 1", "wrong 1"), ("host \u00df 1", "wrong 1"), ("host a\n 1", "wrong 1"),
                          ("host host 1", "host 3"), ("host once 1", "host 4"), ("host logs 1", "host 5"), ("host undo 1", "host 6"),
                          ("host a 1", "refused Same"), ("host once 5", "refused Same"), ("link host once", "link"),
                          ("link once logs", "link"), ("seam host logs once logs", "inner 2 least 1"), ("works once host", "yes"),
                          ("seam logs once once host", "inner 2 least 1"), ("cuts", "once"), ("drop host", "drop"), ("works host", "wrong 1"),
                          ("host host 0", "host 6"), ("votes none 1", "wrong 1"), ("unseen none", "wrong 1")):
            self.tells(told, desk.say, row)

    def test_each_row_with_each_wrong_word(self):
        desk, model = self.at_desk(R, list("abcde"))
        rows = ("host f 1", "votes a 3", "need 3", "link a c", "unlink a b", "drop e", "undo", "redo", "once", "logs", "each 3", "long",
                "cuts", "captains", "blocks", "packing", "rule", "net", "log a b", "works a b", "commands a b c", "unseen a b",
                "seam a logs b c d e")
        odd = NO_WORDS + ("f", "a", "b", "0", "1", "none", "logs", "once", "A", "a b", "-", "a,b", "host", "2 2")
        for row in rows:
            words = row.split(" ")
            told = [words]
            for at in range(len(words) + 1):
                for word in odd:
                    told += [words[:at] + [word] + words[at:], words[:at] + [word] + words[at + 1:]]
                told.append(words[:at])
            for words in told:
                begin = model.at
                self.both(desk, model, " ".join(words))
                if model.at != begin:
                    self.both(desk, model, "undo" if model.at > begin else "redo")
            self.both(desk, model, "net")

    def test_forty_hosts_and_one_more(self):
        desk, model = self.at_desk(linked_net(40, [(0, 39)], need=2))
        self.tells("refused Same", desk.say, f"host {name_of(7)} 1")
        for row in ("host more 1", "host another 0"):
            self.tells("refused TooMany", desk.say, row)
        self.both(desk, model, f"drop {name_of(20)}")
        self.tells("host 39", desk.say, "host more 5")
        model.say("host more 5")
        self.both(desk, model, "net")
        self.both(desk, model, "host another 0")

    def test_drops(self):
        for x in range(5):
            for net in (R, TRIANGLES, full_net(5)):
                desk, model = self.at_desk(net, list("vwxyz"))
                for row in ("drop " + "vwxyz"[x], "net", "blocks", "cuts", "packing", "works v w", "host new 2", "net", "undo", "undo", "net",
                            "redo", "net"):
                    self.both(desk, model, row)
        desk, model = self.at_desk(linked_net(1, []), ["a"])
        for row in ("drop a", "net", "drop a", "undo", "drop a", "undo", "undo", "net"):
            self.both(desk, model, row)

    def test_undo_and_redo_in_drawn_orders(self):
        for seed in range(30):
            chance = Random(seed)
            desk, model = Desk(), Model()
            for _ in range(250):
                row = some_row(chance, model)
                self.both(desk, model, row)
                if chance.random() < 0.1:
                    self.both(desk, model, "net")

    def test_a_hundred_rows_and_one_more(self):
        for many in (99, 100, 101, 150):
            desk = Desk()
            for need in range(2, 2 + many):
                self.tells("need", desk.say, f"need {need}")
            for back in range(min(many, 100)):
                self.tells("undo", desk.say, "undo")
                self.tells(f"need {many - back}", desk.say, "net")
            self.tells("refused NothingToUndo", desk.say, "undo")
            self.tells(f"need {max(1, many - 99)}", desk.say, "net")
            for _ in range(min(many, 100)):
                self.tells("redo", desk.say, "redo")
            self.tells("refused NothingToRedo", desk.say, "redo")
            self.tells(f"need {1 + many}", desk.say, "net")
            self.tells("undo", desk.say, "undo")

    def test_rows_that_leave_all_as_it_was_are_done(self):
        desk, model = self.at_desk(linked_net(2, [], need=2), ["a", "b"])
        for row in ("votes a 1", "need 2", "undo", "undo", "redo", "redo", "redo", "link a b", "unlink a b", "undo", "once", "link a b",
                    "xx", "redo", "votes a 9", "redo", "undo", "undo", "undo", "undo", "net"):
            self.both(desk, model, row)

    def test_what_keeps_redo_and_what_ends_it(self):
        for between, told in (("once", "redo"), ("", "redo"), ("wrong", "redo"), ("host a 1", "redo"), ("link a a", "redo"), ("net", "redo"),
                              ("each 100", "redo"), ("need 1", "refused NothingToRedo"), ("host c 1", "refused NothingToRedo"),
                              ("votes a 1", "refused NothingToRedo"), ("drop a", "refused NothingToRedo")):
            desk = Desk()
            for row in ("host a 1", "host b 1", "undo", between):
                desk.say(row)
            self.tells(told, desk.say, "redo")

    def test_rows_of_two_thousand_signs_and_more(self):
        desk = Desk()
        self.tells("host 0", desk.say, "host a 1")
        for row in ("once" + " " * 1996, "x" * 2000, "host b " + "1" * 1993, " " * 2000):
            self.assertEqual(len(row), 2000)
            self.assertTrue(desk.say(row).startswith("wrong "))
        for row in NO_ROWS:
            self.refuses(BadText, 0, desk.say, row)
        self.tells("need 1\nhost 0 votes 1", desk.say, "net")
        self.tells("1", desk.say, row="once")

    def test_line_feeds_and_tabs_stand_in_words(self):
        desk = Desk()
        for row, told in (("once\n", "wrong 0"), ("need 2\n", "wrong 1"), ("need\t2", "wrong 0"), ("host a 1\nhost b 1", "wrong 2"),
                          (" once", "wrong 0"), ("need  2", "wrong 1"), ("need 2 ", "wrong 2"), ("\n", "wrong 0")):
            self.tells(told, desk.say, row)

    def test_numbers(self):
        desk = Desk()
        for row, told in ((f"host a {FORTY}", "host 0"), (f"need {FORTY}", "need"), ("once", "1"), (f"votes a 1{FORTY}", "wrong 2"),
                          (f"need 1{FORTY}", "wrong 1"), ("need 00", "wrong 1"), ("votes a 0", "votes"), ("once", "0"), ("each 99", "0"),
                          ("each 1", "0"), ("each 100", "refused BadTimes"), (f"each {FORTY}", "refused BadTimes"), ("each 0", "wrong 1"),
                          (f"each 1{FORTY}", "wrong 1"), ("net", f"need {FORTY}\nhost 0 votes 0")):
            self.tells(told, desk.say, row)

    def test_each_asking_row_beside_its_function(self):
        nets = list(some_nets(8, 40, (1, 3, 5, 7))) + [R, TRIANGLES, RINGS, TEN, full_net(8), hubs_net(15), full_net(5),
                                                        chained([full_net(9), full_net(8)]), round_net((1,) * 40, 3), linked_net(12, [])]
        for seed, net in enumerate(nets):
            chance = Random(seed)
            desk, model = self.at_desk(net)
            names = [name_of(x) for x in range(len(net[0]))]
            for row in ("once", "logs", "each 1", "each 7", "each 100", "long", "cuts", "captains", "blocks", "packing", "rule", "net"):
                self.both(desk, model, row)
            for _ in range(12):
                lot = " ".join(chance.sample(names, chance.randint(1, len(names))))
                for word in ("log", "works", "commands", "unseen"):
                    self.both(desk, model, f"{word} {lot}")
                for which in ("once", "logs"):
                    self.both(desk, model, f"seam {chance.choice(names)} {which} {lot}")
            self.both(desk, model, "undo")

    def test_refusals_in_their_order(self):
        desk, _ = self.at_desk(full_net(8), list("abcdefgh"))
        for row, told in (("each 100", "BadTimes"), ("each 2", "NoRule"), ("log a", "TooMany"), ("once", "TooMany"), ("logs", "TooMany"),
                          ("packing", "TooMany"), ("rule", "TooMany"), ("seam a once b", "BadSeam"), ("seam a once a", "BadSeam"),
                          ("seam a logs b c d e f g h", "TooMany"), ("host a 1", "Same"), ("link a a", "Same"), ("link a b", "Already"),
                          ("unlink a a", "NoLink"), ("redo", "NothingToRedo")):
            self.tells("refused " + told, desk.say, row)
        desk, _ = self.at_desk(hubs_net(15))
        self.tells("refused TooMany", desk.say, "each 2")
        desk, _ = self.at_desk(linked_net(40, [(0, 1), (0, 2), (1, 2)]))
        self.tells("refused TooMany", desk.say, "captains")
        self.tells("refused Same", desk.say, f"host {name_of(39)} 1")

    def test_two_desks(self):
        one, two = Desk(), Desk()
        chance = Random(1)
        models = (Model(), Model())
        for _ in range(200):
            which = chance.randrange(2)
            self.both((one, two)[which], models[which], some_row(chance, models[which]))
        for desk, model in zip((one, two), models):
            self.both(desk, model, "net")
        self.tells("need 1", Desk().say, "net")

    def test_the_method_stands_in_the_class_itself(self):
        self.assertEqual((Desk.__module__, Desk.__bases__), ("fifthhost.desk", (object,)))
        self.assertIn("say", vars(Desk))
        self.assertEqual(outcome(Desk().say, "net"), ("told", "need 1"))


def some_row(chance, model):
    """A row that is drawn for the net of a model."""
    names = model.states[model.at][0] or ["a"]
    word = chance.choice(EDITS + EDITS + ("undo", "undo", "undo", "redo", "redo", "once", "blocks", "xx"))
    name = chance.choice(names)
    return {"host": f"host {chance.choice('abcdefghijk')} {chance.randint(0, 3)}", "votes": f"votes {name} {chance.randint(0, 3)}",
            "need": f"need {chance.randint(0, 5)}", "link": f"link {name} {chance.choice(names)}",
            "unlink": f"unlink {name} {chance.choice(names)}", "drop": f"drop {name}"}.get(word, word)


if __name__ == "__main__":
    unittest.main()
