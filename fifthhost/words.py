"""Words of texts: lines cut into words, which are asked from the left, and numbers as words."""

from fifthhost.errors import BadText, TooMany, WrongLine, WrongWord

MOST_SIGNS = 200000
# How many figures a number word has at most, and a number that is told.
MOST_READ = 40
MOST_TOLD = 4000
# Fewer bits than Python wants to tell a number in figures, and more than so many figures have.
MOST_BITS = 14000


class Words:
    """The words of a line, asked one by one from the left; the first one that cannot stand at its place is refused.

    line is the index that is told of a line among others, None for a text that is one line by itself.
    """

    def __init__(self, text, line=None):
        self.row = text.split(" ")
        self.line = line
        self.at = 0

    def ended(self):
        """Whether no word is left."""
        return self.at == len(self.row)

    def look(self):
        """The next word; if none is left the empty one, which can never stand anywhere."""
        return "" if self.ended() else self.row[self.at]

    def take(self, right):
        """The next word, if it is right there."""
        if not right:
            self.refuse()
        self.at += 1
        return self.row[self.at - 1]

    def refuse(self):
        """Refuse the next word, or the lack of one."""
        if self.line is None:
            raise WrongWord(self.at)
        raise WrongLine((self.line, self.at))

    def end(self):
        """Refuse a word that is left."""
        if not self.ended():
            self.refuse()

    def word(self, wanted):
        """The next word, which has to be this one."""
        return self.take(self.look() == wanted)

    def number(self, least, many=None):
        """The next word as a number from the least one on, and below many if this is told."""
        right = number_word(self.look())
        if right:
            number = int(self.look())
            right = number >= least and (many is None or number < many)
        return int(self.take(right))

    def signed(self):
        """The next word as a number of any sign."""
        return int(self.take(signed_word(self.look())))


def check_text(text, most=MOST_SIGNS):
    """Refuse what is no text, and one of too many signs."""
    if type(text) is not str or len(text) > most:
        raise BadText(0)


def number_word(word):
    """Whether a word tells a number from 0 on."""
    # Signs of other alphabets may be digits, too.
    if len(word) > MOST_READ or not word.isascii() or not word.isdigit():
        return False
    return word == "0" or word[0] != "0"


def signed_word(word):
    """Whether a word tells a number of any sign."""
    return number_word(word) or word[:1] == "-" and word != "-0" and number_word(word[1:])


def numbers_of(word):
    """The numbers that a list word tells; None for another word."""
    parts = word.split(",")
    if not all([number_word(part) for part in parts]):
        return None
    return tuple([int(part) for part in parts])


def figures(number):
    """A number in figures; one that has too many is refused."""
    if number.bit_length() > MOST_BITS or len(str(abs(number))) > MOST_TOLD:
        raise TooMany(MOST_TOLD)
    return str(number)


def all_figures(numbers):
    """Numbers in figures, with commas between them."""
    return ",".join([figures(number) for number in numbers])
