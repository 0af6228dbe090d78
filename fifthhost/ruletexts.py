"""Rules as texts: the words of their parts, one behind another, those within others in brackets."""

from fifthhost.errors import TooMany
from fifthhost.forms import MANY_LOGS
from fifthhost.nets import made_net
from fifthhost.rules import MOST_PARTS, MOST_PATH, WITHIN, around_formed, lot_formed, made_rule
from fifthhost.words import Words, all_figures, check_text, figures, numbers_of


def rule_text(net, rule):
    """The text of a rule of a net."""
    made_rule(net, rule)
    return " ".join(words_of(rule))


def words_of(rule):
    """The words of a part of a rule."""
    if rule[0] == "table":
        return ["table"] + words_of_rows(rule[1])
    words = [rule[0]]
    for index in range(1, len(rule)):
        part = rule[index]
        if index in WITHIN[rule[0]]:
            words.extend(["("] + words_of(part) + [")"])
        else:
            words.append(all_figures(part) if type(part) is tuple else figures(part))
    return words


def words_of_rows(rows):
    """The words of the rows of a table."""
    words = []
    for lot, l in rows:
        words.extend([all_figures(lot), figures(l)])
    return words


def read_rule(net, text):
    """The rule of a text, for a net."""
    made_net(net)
    check_text(text)
    reader = RuleReader(len(net[0]), text)
    rule = reader.part(0)
    reader.words.end()
    return rule


class RuleReader:
    """The words of a rule of a net of so many hosts, and how many parts have begun."""

    def __init__(self, many, text):
        self.many = many
        self.words = Words(text)
        self.begun = 0

    def part(self, depth):
        """The next part of the rule; depth is how many indices its path has."""
        if self.begun == MOST_PARTS:
            raise TooMany(MOST_PARTS + 1)
        self.begun += 1
        word = self.words.look()
        self.words.take(depth <= MOST_PATH and word in WITHIN)
        if word == "one":
            return (word, self.log())
        if word == "has":
            return (word, self.host(), self.log(), self.inner(depth))
        if word == "seam":
            return (word,) + self.seam(depth)
        if word == "ring":
            return (word,) + self.ring()
        return (word, self.rows())

    def inner(self, depth):
        """A part in brackets, within one at this depth."""
        self.words.word("(")
        part = self.part(depth + 1)
        self.words.word(")")
        return part

    def seam(self, depth):
        """What stands behind the first word of a seam at this depth."""
        v = self.host()
        side = self.numbers()
        self.words.take(lot_formed(self.many, side) and v not in side)
        z = self.words.number(0)
        g = self.words.number(0)
        return (v, side, z, g, self.inner(depth), self.inner(depth))

    def ring(self):
        """What stands behind the first word of a ring."""
        hosts = self.numbers()
        self.words.take(around_formed(self.many, hosts))
        starts = self.numbers()
        self.words.take(lot_formed(len(hosts), starts))
        return (hosts, starts, self.words.number(1, len(starts) + 1), self.log())

    def rows(self):
        """The rows of a table, up to the end of the text or of the brackets around it."""
        rows = []
        ahead = (0, ())
        while not self.words.ended() and self.words.look() != ")":
            lot = self.numbers()
            self.words.take(lot_formed(self.many, lot) and (len(lot), lot) > ahead)
            ahead = (len(lot), lot)
            rows.append((lot, self.log()))
        return tuple(rows)

    def numbers(self):
        """The numbers of the next word, None if it is no list word; it is not taken yet."""
        return numbers_of(self.words.look())

    def host(self):
        """The next word as a host."""
        return self.words.number(0, self.many)

    def log(self):
        """The next word as a log."""
        return self.words.number(0, MANY_LOGS)
