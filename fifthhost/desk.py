"""The desk: a net that is kept by words, with names for its hosts."""

from fifthhost.deskasks import ASKS
from fifthhost.deskedits import EDITS
from fifthhost.deskrows import read_row
from fifthhost.errors import NothingToRedo, NothingToUndo, Refused, WrongWord
from fifthhost.words import Words, check_text

MOST_SIGNS_OF_ROW = 2000
MOST_UNDONE = 100


class Desk:
    """The names of hosts, and their net; done and undone are what both were, to which undo and redo lead."""

    def __init__(self):
        self.names = ()
        self.net = ((), (), 1)
        self.done = []
        self.undone = []

    def say(self, row):
        """What the desk tells of a row."""
        check_text(row, MOST_SIGNS_OF_ROW)
        try:
            word, parts = read_row(Words(row), self.names)
        except WrongWord as wrong:
            return f"wrong {wrong.what}"
        try:
            return self.told(word, parts)
        except Refused as refused:
            return f"refused {refused.name}"

    def told(self, word, parts):
        """What is told of a row that begins with a word, if nothing is refused."""
        if word in ASKS:
            ask = ASKS[word]
            return ask(self.names, self.net, *parts)
        if word == "undo":
            self.undo()
        elif word == "redo":
            self.redo()
        else:
            edit = EDITS[word]
            self.keep(edit(self.names, self.net, *parts))
        return f"host {len(self.names) - 1}" if word == "host" else word

    def keep(self, state):
        """Go on with other names and another net; what they were can be had back."""
        # Of more rows than these the first one can never be undone again.
        self.done = (self.done + [self.state()])[-MOST_UNDONE:]
        self.undone = []
        self.names, self.net = state

    def undo(self):
        """Go back to what was ahead of the last row that was done."""
        if not self.done:
            raise NothingToUndo(0)
        self.undone.append(self.state())
        self.names, self.net = self.done.pop()

    def redo(self):
        """Go on again to what was behind the last row that was undone."""
        if not self.undone:
            raise NothingToRedo(0)
        self.done.append(self.state())
        self.names, self.net = self.undone.pop()

    def state(self):
        """The names and the net, as they are now."""
        return (self.names, self.net)
