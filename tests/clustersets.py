"""What the tests of the cluster share: a plain model of it by the document's words, and stories that are drawn."""

from itertools import combinations

from fifthhost import errors
from fifthhost.blocks import blocks, kind
from fifthhost.cluster import Cluster
from fifthhost.making import rule_of
from tests.common import R, TRIANGLES, alike, full_net, hubs_net, linked_net, plain, round_net, slow_hangs
from tests.rulesets import slow_log

# Nets of which stories are drawn, and the four hosts of the example of [55].
FOUR = full_net(4)
LINE = linked_net(4, [(0, 1), (1, 2), (2, 3)], need=2)
TALL = ((3, 1, 0, 1), ((0, 1), (0, 2), (1, 2), (2, 3)), 2)
NETS = (R, FOUR, full_net(3), TRIANGLES, round_net((1, 2, 1, 1), 3), LINE, hubs_net(5), full_net(5, 3), TALL)

# The deeds that are drawn, each as often as it stands there.
DEEDS = """cut cut cut mend mend mend mend down down up up up up wipe wipe restore restore restore restore restore
begin begin begin begin begin begin put put put put put put put put put put share share share change change""".split()


def outcome(function, *args, **named):
    """What a call returns or refuses."""
    try:
        return ("told", function(*args, **named))
    except errors.Refused as refused:
        return (type(refused).__name__, refused.what)


class Twins:
    """A cluster and the plain model of it, which are asked the same."""

    def __init__(self, case, net=R, rule=None, restores=None):
        rule = rule_of(net) if rule is None else rule
        self.case, self.net = case, net
        self.one, self.two = Cluster(net, rule, restores), Plain(net, rule, restores)

    def ask(self, word, *args):
        """What both tell or refuse, which must be the same."""
        told, wanted = outcome(getattr(self.one, word), *args), outcome(getattr(self.two, word), *args)
        self.case.assertTrue(alike(told, wanted), (word, args, told, wanted))
        if told[0] == "told":
            self.case.assertTrue(plain(told[1]))
        return told

    def do(self, word, *args):
        """What a deed tells; it must be granted."""
        told = self.ask(word, *args)
        self.case.assertEqual(told[0], "told", (word, args, told))
        return told[1]

    def same(self, editions=3, logs=3):
        """All that can be asked of both is the same."""
        for word, args in questions(self.net, editions, logs):
            self.ask(word, *args)

    def same_disks(self):
        """All that lies on the disks is the same."""
        for x in range(len(self.net[0])):
            for word in ("state", "edition", "heard", "letters"):
                self.ask(word, x)
            for name in self.two.names([x]) if self.two.has[x] else []:
                self.ask("cell", x, name)


def questions(net, editions, logs):
    """All that can be asked of a cluster, as pairs of a word and arguments, for names and editions below these."""
    names = [(e, l) for e in range(editions) for l in range(logs)]
    for word in ("parts", "record", "editions"):
        yield word, ()
    for x in range(len(net[0])):
        for word in ("part", "state", "edition", "heard", "known", "letters"):
            yield word, (x,)
        for name in names:
            yield "cell", (x, name)
            yield "read", (x, name)
        for e in range(editions):
            yield "book", (x, e)
        for key in (5, 7):
            yield "show", (x, key)
    for pair in net[1]:
        yield "link", pair
    for e in range(editions + 1):
        yield "sealed", (e,)
        yield "ends", (e,)
    for name in names:
        for number in (1, 2, 4):
            yield "final", (name, number, number // 2)


def refuse(name, what):
    raise getattr(errors, name)(what)


def is_number(thing, least=None):
    return isinstance(thing, int) and not isinstance(thing, bool) and (least is None or thing >= least)


class Plain:
    """A cluster by the words of [44] to [56], as slow as they are; what a host has is a dict, None if it is blank."""

    def __init__(self, net, rule, restores=None):
        self.net, self.rule, self.restores = net, rule, restores
        self.hosts = range(len(net[0]))
        self.broken, self.asleep, self.done = set(), set(), []
        self.made = {}
        self.has = [self.fresh([(net[0], net[2], ())]) for _ in self.hosts]

    def fresh(self, editions):
        return {"cells": {}, "heard": {}, "editions": editions, "books": {}, "letters": []}

    # What is asked of single hosts and links.

    def host(self, x):
        if not is_number(x, 0) or x >= len(self.hosts):
            refuse("BadHost", x)

    def at(self, x):
        self.host(x)
        if x in self.asleep:
            refuse("Down", x)
        self.written(x)

    def written(self, x):
        self.host(x)
        if self.has[x] is None:
            refuse("Blank", x)
        return self.has[x]

    def pair(self, a, b):
        self.host(a)
        self.host(b)
        pair = tuple(sorted((a, b)))
        if pair not in self.net[1]:
            refuse("NoLink", pair)
        return pair

    def cut(self, a, b):
        pair = self.pair(a, b)
        if pair in self.broken:
            refuse("Already", pair)
        self.broken.add(pair)

    def mend(self, a, b):
        pair = self.pair(a, b)
        if pair not in self.broken:
            refuse("Already", pair)
        self.broken.remove(pair)

    def down(self, x):
        self.host(x)
        if x in self.asleep:
            refuse("Already", x)
        self.asleep.add(x)

    def up(self, x):
        self.host(x)
        if x not in self.asleep:
            refuse("Already", x)
        self.asleep.remove(x)

    def wipe(self, x):
        self.host(x)
        if x not in self.asleep:
            refuse("NotDown", x)
        if self.has[x] is None:
            refuse("Already", x)
        self.has[x] = None

    def state(self, x):
        self.host(x)
        return ("down" if x in self.asleep else "up", "blank" if self.has[x] is None else "written")

    def link(self, a, b):
        return "broken" if self.pair(a, b) in self.broken else "whole"

    def parts(self):
        return tuple(sorted({self.part(x) for x in self.hosts if x not in self.asleep and self.has[x] is not None}))

    def part(self, x):
        self.at(x)
        reached = {x}
        while True:
            further = {b for link in self.net[1] if link not in self.broken for a, b in (link, link[::-1])
                       if a in reached and b not in self.asleep and self.has[b] is not None}
            if further <= reached:
                return tuple(sorted(reached))
            reached |= further

    # Editions, names and cells.

    def edition(self, x):
        return len(self.written(x)["editions"]) - 1

    def wisest(self, lot):
        most = max(self.edition(y) for y in lot)
        return [y for y in sorted(lot) if self.edition(y) == most][0]

    def net_at(self, edition):
        return (edition[0], self.net[1], edition[1])

    def lot_works(self, edition, lot):
        net = self.net_at(edition)
        return slow_hangs(net, lot) and sum(net[0][y] for y in lot) >= net[2]

    def name(self, lot):
        """The name of the log of a part."""
        known = self.has[self.wisest(lot)]["editions"]
        e = len(known) - 1
        if not self.lot_works(known[e], lot):
            refuse("NotWorking", lot)
        net = self.net_at(known[e])
        if e and net not in self.made:
            self.made[net] = rule_of(net)
        l = slow_log(dict(enumerate(net[0])), self.made[net] if e else self.rule, set(lot))
        if l is None:
            refuse("Unruled", lot)
        return (e, l)

    def come_to_know(self, lot):
        known = list(self.has[self.wisest(lot)]["editions"])
        for y in lot:
            for edition in known[self.edition(y) + 1:]:
                self.learn(y, edition)

    def learn(self, y, edition):
        self.has[y]["editions"] = self.has[y]["editions"] + [edition]
        self.has[y]["letters"].append(("hear", edition[2]))
        self.hear(y, edition[2])

    def get(self, y, name):
        return self.has[y]["cells"].get(name, {"promise": 0, "taken": 0, "opener": (), "rows": (), "sure": 0})

    def put_in(self, y, name, letter, **parts):
        self.has[y]["cells"][name] = {**self.get(y, name), **parts}
        self.has[y]["letters"].append(letter)

    def told(self, cell):
        return tuple(cell[part] for part in ("promise", "taken", "opener", "rows", "sure"))

    def cell(self, x, name):
        self.written(x)
        self.check_name(name)
        return self.told(self.get(x, name))

    def check_name(self, name):
        if not isinstance(name, tuple) or len(name) != 2 or not all(is_number(part, 0) for part in name):
            refuse("BadName", name)

    def hear_pair(self, y, name, pair):
        if pair > self.has[y]["heard"].get(name, (0, 0)):
            self.has[y]["heard"][name] = pair

    def hear(self, y, knows):
        for e, l, number, length in knows:
            self.hear_pair(y, (e, l), (number, length))

    def hear_row(self, y, name, row, place):
        self.hear_pair(y, name, (row[0], place + 1))
        self.hear(y, row[3])

    def heard(self, x):
        return tuple(sorted(name + pair for name, pair in self.written(x)["heard"].items()))

    def fullest(self, lot, name):
        """The member with the greatest (taken, how many rows), the least one of several."""
        ranks = {y: (self.get(y, name)["taken"], len(self.get(y, name)["rows"])) for y in lot}
        return min(y for y in lot if ranks[y] == max(ranks.values()))

    def names(self, lot):
        return sorted({name for y in lot for name in (*self.has[y]["cells"], *self.has[y]["heard"])})

    # Deeds.

    def check_letters(self, letters, lot):
        if letters is not None and (not is_number(letters, 0) or letters > 3 * len(lot)):
            refuse("BadLetters", letters)

    def begin(self, x, letters=None):
        lot = self.part(x)
        name = self.name(lot)
        self.check_letters(letters, lot)
        self.come_to_know(lot)
        left = 3 * len(lot) if letters is None else letters
        done = left >= 2 * len(lot)
        number = 1 + max(self.get(y, name)["promise"] for y in lot)
        for y in lot[:left]:
            self.put_in(y, name, ("promise", name, number), promise=number)
        left = max(0, left - len(lot))
        rows = self.get(self.fullest(lot, name), name)["rows"]
        for y in lot[:left]:
            self.put_in(y, name, ("take", name, number, lot, rows), taken=number, opener=lot, rows=rows)
            for place, row in enumerate(rows):
                self.hear_row(y, name, row, place)
        left = max(0, left - len(lot))
        for y in lot[:left]:
            self.put_in(y, name, ("sure", name, len(rows), lot), sure=len(rows))
        return number if done else None

    def put(self, x, key, value, letters=None):
        lot = self.part(x)
        if not is_number(key, 0) or key > 999:
            refuse("BadKey", key)
        if not is_number(value):
            refuse("BadValue", value)
        name = self.name(lot)
        cells = [self.get(y, name) for y in lot]
        number = cells[0]["promise"]
        if {(cell["promise"], cell["taken"], cell["opener"]) for cell in cells} != {(number, number, lot)}:
            refuse("NotOpen", name)
        if len({cell["rows"] for cell in cells}) > 1:
            refuse("NotOpen", name)
        self.check_letters(letters, lot)
        self.come_to_know(lot)
        left = 3 * len(lot) if letters is None else letters
        done = left >= 2 * len(lot)
        row = (number, key, value, self.known(x))
        place = len(cells[0]["rows"])
        for y in lot[:left]:
            self.put_in(y, name, ("note", name, row, place), opener=())
            self.hear_row(y, name, row, place)
        left = max(0, left - len(lot))
        for y in lot[:left]:
            self.put_in(y, name, ("hold", name, row), rows=self.get(y, name)["rows"] + (row,))
        left = max(0, left - len(lot))
        for y in lot[:left]:
            self.put_in(y, name, ("sure", name, place + 1, lot), sure=place + 1, opener=lot)
        if done:
            self.done.append((lot, name, place) + row)
            return place
        return None

    def share(self, x):
        lot = self.part(x)
        self.come_to_know(lot)
        news = {y: [] for y in lot}
        for name in self.names(lot):
            best = self.get(self.fullest(lot, name), name)
            sure = max(self.get(y, name)["sure"] for y in lot)
            pair = max(self.has[y]["heard"].get(name, (0, 0)) for y in lot)
            for y in lot:
                cell = dict(self.get(y, name))
                if (cell["taken"], len(cell["rows"])) < (best["taken"], len(best["rows"])):
                    cell.update(taken=best["taken"], rows=best["rows"], opener=())
                cell["promise"] = max(cell["promise"], cell["taken"])
                cell["sure"] = sure
                news[y].append((name, cell, pair))
        for y in lot:
            self.copy(y, news[y])

    def copy(self, y, news):
        """Take over cells and pairs, and keep a letter of those that are other ones than before."""
        rows = tuple((name, self.told(cell), pair) for name, cell, pair in news
                     if cell != self.get(y, name) or pair != self.has[y]["heard"].get(name, (0, 0)))
        for name, cell, pair in news:
            self.has[y]["cells"][name] = cell
            if pair > (0, 0):
                self.has[y]["heard"][name] = pair
        if rows:
            self.has[y]["letters"].append(("copy", rows))

    def read(self, x, name):
        lot = self.part(x)
        self.check_name(name)
        return (self.get(self.fullest(lot, name), name)["rows"], max(self.get(y, name)["sure"] for y in lot))

    def known(self, x):
        heard = [self.has[y]["heard"] for y in self.part(x)]
        names = sorted({name for one in heard for name in one})
        return tuple(name + max(one[name] for one in heard if name in one) for name in names)

    def show(self, x, key):
        lot = self.part(x)
        if not is_number(key, 0) or key > 999:
            refuse("BadKey", key)
        rows = [(name, place, row) for name in self.names(lot) for place, row in enumerate(self.read(x, name)[0])
                if row[1] == key]

        def covered(index):
            name, place, row = rows[index]
            return any(know[:2] == name and know[2:] >= (row[0], place + 1)
                       for other, (_, _, one) in enumerate(rows) if other != index for know in one[3])

        return tuple(sorted(rows[i][0] + (rows[i][1], rows[i][2][0], rows[i][2][2])
                            for i in range(len(rows)) if not covered(i)))

    def final(self, name, number, place):
        self.check_name(name)
        if not is_number(number, 1):
            refuse("BadNumber", number)
        if not is_number(place, 0):
            refuse("BadPlace", place)
        ignorant = [x for x in self.hosts if self.has[x] is not None
                    and self.has[x]["heard"].get(name, (0, 0)) < (number, place + 1)]
        return not any(self.some_work(edition, ignorant) for e, edition in enumerate(self.all_editions())
                       if not self.sealed(e))

    def some_work(self, edition, hosts):
        """Whether some of these hosts can work together by an edition."""
        return any(self.lot_works(edition, lot) for size in range(1, len(hosts) + 1)
                   for lot in combinations(hosts, size))

    def record(self):
        return tuple(self.done)

    def change(self, x, votes, need, letters=None):
        lot = self.part(x)
        if not isinstance(votes, tuple) or len(votes) != len(self.hosts):
            refuse("BadVotes", -1)
        for place, one in enumerate(votes):
            if not is_number(one, 0):
                refuse("BadVotes", place)
        if not is_number(need, 1):
            refuse("BadNeed", need)
        for block in blocks(self.net):
            if len(block) > {"other": 7, "hubs": 14}.get(kind(self.net, block), 40):
                refuse("TooMany", len(block))
        known = self.has[self.wisest(lot)]["editions"]
        e = len(known) - 1
        if not self.lot_works(known[e], lot) or self.some_work(known[e], sorted(set(self.hosts) - set(lot))):
            refuse("NotCommanding", lot)
        self.check_letters(letters, lot)
        self.come_to_know(lot)
        return self.decide(x, lot, e, (votes, need), letters)

    def decide(self, x, lot, e, wish, letters):
        left = 3 * len(lot) if letters is None else letters
        done = left >= 2 * len(lot)
        number = 1 + max(self.book(y, e)[0] for y in lot)
        for y in lot[:left]:
            self.has[y]["books"][e] = (number,) + self.book(y, e)[1:]
        left = max(0, left - len(lot))
        pairs = {know[:2]: know[2:] for know in self.known(x)}
        elder = [(-self.book(y, e)[1], y) for y in lot if self.book(y, e)[2] is not None]
        if elder:
            votes, need, knows = self.book(min(elder)[1], e)[2]
            wish = (votes, need)
            pairs = {name: max(pairs.get(name, (0, 0)), dict((know[:2], know[2:]) for know in knows).get(name, (0, 0)))
                     for name in {*pairs, *(know[:2] for know in knows)}}
        proposal = wish + (tuple(sorted(name + pair for name, pair in pairs.items())),)
        for y in lot[:left]:
            self.has[y]["books"][e] = (self.book(y, e)[0], number, proposal)
        left = max(0, left - len(lot))
        for y in lot[:left]:
            self.learn(y, proposal)
        return (e + 1,) + wish if done else None

    def book(self, x, e):
        self.written(x)
        if not is_number(e, 0):
            refuse("BadEdition", e)
        return self.has[x]["books"].get(e, (0, 0, None))

    def all_editions(self):
        some = [x for x in self.hosts if self.has[x] is not None]
        return self.has[self.wisest(some)]["editions"] if some else [(self.net[0], self.net[2], ())]

    def editions(self):
        return tuple(edition[:2] for edition in self.all_editions())

    def sealed(self, e):
        if not is_number(e, 0) or e >= len(self.editions()):
            refuse("BadEdition", e)
        return not self.some_work(self.all_editions()[e], [x for x in self.hosts if not self.above(x, e)])

    def above(self, x, e):
        return self.has[x] is not None and self.edition(x) > e

    def ends(self, e):
        if not self.sealed(e):
            refuse("NotSealed", e)
        told = {}
        for x in self.hosts:
            if self.above(x, e):
                for name, cell in self.has[x]["cells"].items():
                    if name[0] == e and cell["taken"] > 0:
                        told.setdefault(name[1], []).append((cell["taken"], len(cell["rows"])))
        return tuple(sorted((l,) + max(pairs) for l, pairs in told.items()))

    def restore(self, x, y):
        self.host(x)
        if x in self.asleep:
            refuse("Down", x)
        if self.has[x] is not None:
            refuse("NotBlank", x)
        lot = self.part(y)
        pair = tuple(sorted((x, y)))
        if pair not in self.net[1] or pair in self.broken:
            refuse("NoLink", pair)
        wisest = self.wisest(lot)
        editions = list(self.has[wisest]["editions"])
        self.check_restore(x, lot, editions)
        self.come_to_know(lot)
        self.has[x] = self.fresh(editions[:1])
        for edition in editions[1:]:
            self.learn(x, edition)
        news = []
        for name in sorted({*self.names(lot), *self.has[x]["heard"]}):
            best = self.get(self.fullest(lot, name), name)
            cell = {"promise": max(self.get(y, name)["promise"] for y in lot), "taken": best["taken"], "opener": (),
                    "rows": best["rows"], "sure": max(self.get(y, name)["sure"] for y in lot)}
            news.append((name, cell, max(self.has[y]["heard"].get(name, (0, 0)) for y in (x,) + lot)))
        self.copy(x, news)
        for e in {e for y in lot for e in self.has[y]["books"]}:
            self.has[x]["books"][e] = (max(self.book(y, e)[0] for y in lot), 0, None)

    def check_restore(self, x, lot, editions):
        if self.restores is not None:
            if (x, lot) not in self.restores:
                refuse("NotLet", (x, lot))
            return
        if not self.lot_works(editions[-1], lot):
            refuse("NotWorking", lot)
        if any(self.book(y, len(editions) - 1)[2] is not None for y in lot):
            refuse("NotSettled", lot)
        rest = [y for y in self.hosts if y not in lot]
        piece = max((one for size in range(1, len(rest) + 1) for one in combinations(rest, size)
                     if x in one and slow_hangs(self.net, one)), key=len)
        if any(self.lot_works(edition, piece) for edition in editions):
            refuse("Harmful", piece)

    def letters(self, x):
        return tuple(self.written(x)["letters"])

    def forget(self, x):
        self.host(x)
        if x not in self.asleep:
            refuse("NotDown", x)
        left = self.written(x)["letters"]
        if not left:
            refuse("NoLetter", x)
        struck = left.pop()
        cells, heard = slow_replay(left)
        names = ("promise", "taken", "opener", "rows", "sure")
        self.has[x]["cells"] = {name: dict(zip(names, cell)) for name, cell in cells}
        self.has[x]["heard"] = {know[:2]: know[2:] for know in heard}
        return struck[0]


def slow_replay(letters):
    """What letters leave on a blank disk, by the words of [58]."""
    cells, heard = {}, {}

    def hear(name, pair):
        heard[name] = max(heard.get(name, (0, 0)), pair)

    def hear_row(name, row, place):
        hear(name, (row[0], place + 1))
        for know in row[3]:
            hear(know[:2], know[2:])

    for word, *parts in letters:
        if word == "hear":
            for know in parts[0]:
                hear(know[:2], know[2:])
        elif word == "copy":
            for name, cell, pair in parts[0]:
                cells[name], heard[name] = list(cell), pair
        else:
            name = parts[0]
            cell = cells.setdefault(name, [0, 0, (), (), 0])
            if word == "promise":
                cell[0] = parts[1]
            elif word == "take":
                cell[1:4] = parts[1:]
                for place, row in enumerate(parts[3]):
                    hear_row(name, row, place)
            elif word == "note":
                cell[2] = ()
                hear_row(name, *parts[1:])
            elif word == "hold":
                cell[3] += (parts[1],)
            else:
                cell[4], cell[2] = parts[1:]
    blank = (0, 0, (), (), 0)
    return (tuple((name, tuple(cells[name])) for name in sorted(cells) if tuple(cells[name]) != blank),
            tuple(name + heard[name] for name in sorted(heard) if heard[name] != (0, 0)))


def some_letters(chance, many):
    """None, or how many letters come to a part of so many hosts; now and then one too many."""
    return None if chance.random() < 0.6 else chance.randint(0, 3 * many + (chance.random() < 0.1))


def some_deed(chance, cluster, words=DEEDS):
    """A deed that is drawn: its word and what it is asked with; most are granted."""
    net = cluster.net
    every = range(len(net[0]))
    states = [cluster.state(y) for y in every]
    fit = {
        # Few hosts are down or blank at once, so that parts go on working.
        "down": [y for y in every if states[y][0] == "up" and states.count(("up", "written")) > len(every) * 2 / 3],
        "up": [y for y in every if states[y][0] == "down"],
        "wipe": [y for y in every if states[y] == ("down", "written")],
        "forget": [y for y in every if states[y] == ("down", "written") and cluster.letters(y)],
        "restore": [y for y in every if states[y] == ("up", "blank")],
        "put": [y for y in every if states[y] == ("up", "written") and is_open(cluster, y)],
    }
    word = chance.choice([word for word in words if fit.get(word, every)])
    x = chance.choice(fit.get(word, every)) if chance.random() < 0.9 else chance.choice(every)
    if word in ("cut", "mend"):
        pairs = [pair for pair in net[1] if cluster.link(*pair) == {"cut": "whole", "mend": "broken"}[word]] or net[1]
        return (word, *(chance.choice(pairs) if pairs else (0, 0)))
    if word == "restore":
        near = [b for pair in net[1] for a, b in (pair, pair[::-1]) if a == x and states[b] == ("up", "written")]
        return (word, x, chance.choice(near or every))
    if word in ("down", "up", "wipe", "forget", "share"):
        return (word, x)
    if word == "begin":
        return (word, x, some_letters(chance, len(every)))
    if word == "put":
        return (word, x, chance.choice((5, 5, 7, 0, 999)), chance.randint(-9, 9), some_letters(chance, len(every)))
    votes = tuple(chance.randint(0, 2) for _ in every)
    return (word, x, votes, chance.randint(1, max(1, sum(votes) * 2 // 3)), some_letters(chance, len(every)))


def is_open(cluster, x):
    """Whether some log is open for the part of a host."""
    lot = cluster.part(x)
    return any(cell[2] == lot for cell in (cluster.cell(x, (cluster.edition(x), l)) for l in range(4)))
