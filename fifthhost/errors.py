"""The errors of the package: all of them stand under Refused, none under another one."""


class Refused(ValueError):
    """A call is refused; what it is told for is kept as it was handed over, and the name of the error's class."""

    def __init__(self, what):
        self.what = what
        self.name = self.__class__.__name__


class BadNet(Refused):
    """What was handed in is no net."""


class BadVotes(Refused):
    """The votes, or those at a place, are no right ones."""


class BadLinks(Refused):
    """The links, or the one at an index, are no right ones."""


class BadNeed(Refused):
    """A need is no number from 1 on."""


class BadHost(Refused):
    """What was handed in is no host."""


class BadLot(Refused):
    """What was handed in is no lot of the net."""


class BadOrder(Refused):
    """The hosts, or the entries of a record, are in no right order."""


class BadBlock(Refused):
    """What was handed in is no block of the net, or none of the wanted kind."""


class BadWhich(Refused):
    """What was handed in names neither of the two numbers."""


class BadSeam(Refused):
    """A host and a side are no seam of the net."""


class BadTimes(Refused):
    """How many logs each lot is to get is no number from 1 to 99."""


class BadRule(Refused):
    """A part of what was handed in is no rule."""


class BadLog(Refused):
    """What was handed in is no log."""


class BadHouse(Refused):
    """What was handed in is no house, or a row of it is none."""


class BadMoments(Refused):
    """What was handed in are no moments, or one of them is none."""


class BadKey(Refused):
    """A key is no number from 0 to 999."""


class BadValue(Refused):
    """A value is no number."""


class BadMany(Refused):
    """How many points or hues there are is no right number."""


class BadPairs(Refused):
    """The pairs of points, or the one at an index, are no right ones."""


class BadLetters(Refused):
    """The letters, or how many of them come, are no right ones."""


class BadName(Refused):
    """What was handed in is no name of a log."""


class BadNumber(Refused):
    """The number of a row is no number from 1 on."""


class BadPlace(Refused):
    """The place of a row is no number from 0 on."""


class BadEdition(Refused):
    """What was handed in is no edition."""


class BadRestores(Refused):
    """What was handed in are no restores, or one of them is none."""


class BadRecord(Refused):
    """What was handed in is no record, or an entry of it is none."""


class BadEntry(Refused):
    """What was handed in is no entry of a record."""


class BadStory(Refused):
    """What was handed in is no story, or an event of it is none."""


class BadText(Refused):
    """What was handed in is no text, or too long a one."""


class WrongWord(Refused):
    """A word of a text cannot stand at its place."""


class WrongLine(Refused):
    """A line of a text has a word that cannot stand at its place."""


class Same(Refused):
    """Two things that are to be unlike are one."""


class Already(Refused):
    """A thing is already as it is wanted to become."""


class NoLink(Refused):
    """Two hosts are not linked."""


class Unlike(Refused):
    """Two things that are to be alike are not."""


class NotWorking(Refused):
    """A lot does not work."""


class Unruled(Refused):
    """A lot works, but the rule tells it no log."""


class NoRule(Refused):
    """No short rule tells how many logs are enough."""


class Down(Refused):
    """A host is down."""


class Blank(Refused):
    """The disk of a host is blank."""


class NotDown(Refused):
    """A host is not down."""


class NotBlank(Refused):
    """The disk of a host is not blank."""


class NotOpen(Refused):
    """A log is not open for the part."""


class NotCommanding(Refused):
    """A part does not command."""


class NotSettled(Refused):
    """A host of the part has a proposal that is not decided."""


class NotSealed(Refused):
    """An edition is not sealed."""


class NotLet(Refused):
    """A restore is none of those that are let."""


class Harmful(Refused):
    """A piece could work that does not know what the part knows."""


class NoLetter(Refused):
    """A host has no letter."""


class NothingToUndo(Refused):
    """There is nothing to undo."""


class NothingToRedo(Refused):
    """There is nothing to redo."""


class TooMany(Refused):
    """There are more of a thing than are let."""
