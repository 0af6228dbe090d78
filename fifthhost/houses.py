"""Houses: what a part writes into by what its hosts remember."""

from fifthhost.errors import BadHouse, TooMany
from fifthhost.forms import number_below, number_from, rule_log, tuple_of
from fifthhost.lots import sum_of_votes
from fifthhost.nets import made_net

MOST_ROWS = 40
# Each word of a test or an act, with how many parts this has: the word itself, and what it is asked with.
TESTS = (("always", 1), ("has", 2), ("many", 2), ("votes", 2), ("last", 2), ("shrunk", 1), ("least", 2))
ACTS = (("log", 2), ("last", 1), ("first", 1))


def made_house(net, thing):
    """The thing, if it is a house of the net."""
    made_net(net)
    if type(thing) is not tuple:
        raise BadHouse(-1)
    if len(thing) > MOST_ROWS:
        raise TooMany(len(thing))
    for index, row in enumerate(thing):
        if not right_row(len(net[0]), row):
            raise BadHouse(index)
    return thing


def right_row(many, row):
    """Whether a thing is a row of a house, in a net of so many hosts."""
    return tuple_of(row, 2) and right_test(many, row[0]) and right_act(row[1])


def right_test(many, test):
    """Whether a thing is a test."""
    if not worded(TESTS, test):
        return False
    word = test[0]
    if word == "has" or word == "least":
        return number_below(test[1], many)
    if word == "many" or word == "votes":
        return number_from(test[1], 0)
    return word != "last" or rule_log(test[1])


def right_act(act):
    """Whether a thing is an act."""
    return worded(ACTS, act) and (act[0] != "log" or rule_log(act[1]))


def worded(words, thing):
    """Whether a thing is a tuple that begins with one of the words and has as many parts as this one wants."""
    return type(thing) is tuple and thing != () and (thing[0], len(thing)) in words


class Memory:
    """What the hosts remember: for each one the log into which it last wrote, and the lot in which it last was."""

    def __init__(self, many):
        self.last = [-1] * many
        self.inside = [()] * many

    def keep(self, moment, told):
        """Behind a moment all hosts of its lots remember these, and those of lots that got a log remember it."""
        for lot in moment:
            for x in lot:
                self.inside[x] = lot
        for lot, log in told:
            for x in lot:
                self.last[x] = log

    def shrunk(self, lot):
        """Whether all hosts of the lot remember one and the same lot, which is not ()."""
        told = self.inside[lot[0]]
        # A host remembers no lots but those in which it was, so the lot lies within the one that all remember.
        return told != () and all([self.inside[x] == told for x in lot])


def given(net, house, memory, lot):
    """The log that a house gives to a lot that works."""
    for test, act in house:
        if holds(net, memory, test, lot):
            return log_by_act(memory, act, lot)
    return 0


def holds(net, memory, test, lot):
    """Whether a test holds of a lot."""
    word = test[0]
    if word == "has":
        return test[1] in lot
    if word == "many":
        return len(lot) >= test[1]
    if word == "votes":
        return sum_of_votes(net, lot) >= test[1]
    if word == "last":
        return test[1] in [memory.last[x] for x in lot]
    if word == "shrunk":
        return memory.shrunk(lot)
    return word == "always" or lot[0] == test[1]


def log_by_act(memory, act, lot):
    """The log that an act gives to a lot."""
    if act[0] == "log":
        return act[1]
    if act[0] == "first":
        return max(0, memory.last[lot[0]])
    return min([memory.last[x] for x in lot if memory.last[x] >= 0], default=0)
