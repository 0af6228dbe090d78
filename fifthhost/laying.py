"""Disks: what the letters that a host gets leave on its disk, and the editions and books that lie there as well."""

NO_CELL = (0, 0, (), (), 0)
NO_PAIR = (0, 0)
NO_BOOK = (0, 0, None)


class Disk:
    """A disk that is not blank, or that letters make so.

    cells and pairs are told by names; what is told of a name that is not among them is as it was at first. got are the
    letters that left them so. learnt are the editions that the host knows, each as (votes, need, knows), and books are
    told by editions.
    """

    def __init__(self, first):
        self.cells = {}
        self.pairs = {}
        self.got = []
        self.learnt = [first]
        self.books = {}

    def cell(self, name):
        """The cell of a name."""
        return self.cells.get(name, NO_CELL)

    def pair(self, name):
        """The pair that was heard of a name."""
        return self.pairs.get(name, NO_PAIR)

    def book(self, e):
        """The book of an edition."""
        return self.books.get(e, NO_BOOK)

    def told_cells(self):
        """The pairs of a name and its cell, by rising names, of all names whose cell is not as at first."""
        return tuple([(name, self.cells[name]) for name in sorted(self.cells) if self.cells[name] != NO_CELL])

    def lay(self, letter):
        """Get one more letter."""
        self.got.append(letter)
        self.follow(letter)

    def strike(self):
        """Lose the last letter, as if it had never come, and tell its first word."""
        struck = self.got.pop()
        self.cells = {}
        self.pairs = {}
        for letter in list(self.got):
            self.follow(letter)
        return struck[0]

    def follow(self, letter):
        """Let cells and pairs become as a letter wants them."""
        if letter[0] == "hear":
            self.hear(letter[1])
        elif letter[0] == "copy":
            for name, cell, pair in letter[1]:
                self.cells[name] = cell
                self.pairs[name] = pair
        else:
            self.cells[letter[1]] = self.cell_by(letter)

    def cell_by(self, letter):
        """The cell that a letter leaves of its name; rows that are heard with it are heard."""
        word, name = letter[:2]
        promise, taken, opener, rows, sure = self.cell(name)
        if word == "promise":
            promise = letter[2]
        elif word == "take":
            taken, opener, rows = letter[2:]
            for place, row in enumerate(rows):
                self.hear_row(name, row, place)
        elif word == "note":
            opener = ()
            self.hear_row(name, letter[2], letter[3])
        elif word == "hold":
            rows = rows + (letter[2],)
        else:
            sure, opener = letter[2:]
        return (promise, taken, opener, rows, sure)

    def hear_row(self, name, row, place):
        """Hear a row at a place of a name."""
        self.hear_pair(name, (row[0], place + 1))
        self.hear(row[3])

    def hear(self, knows):
        """Hear knows."""
        for e, l, number, length in knows:
            self.hear_pair((e, l), (number, length))

    def hear_pair(self, name, pair):
        """Hear one pair of a name."""
        if pair > self.pair(name):
            self.pairs[name] = pair

    def learn(self, edition):
        """Come to know one more edition, and hear its knows."""
        self.learnt.append(edition)
        self.lay(("hear", edition[2]))


def knows_of(pairs):
    """Pairs that are told by names, as knows."""
    return tuple([name + pairs[name] for name in sorted(pairs) if pairs[name] != NO_PAIR])
