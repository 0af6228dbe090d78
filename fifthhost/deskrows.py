"""The rows of a desk: their words, and what these stand for given the names of the hosts."""

# For each first word a sign for each part behind it: a fresh name, the name of a host, a number from 0 or from 1 on,
# the word of one of the two numbers, or names to the end of the row.
ROW_PARTS = {
    "host": "f0",
    "votes": "h0",
    "need": "1",
    "link": "hh",
    "unlink": "hh",
    "drop": "h",
    "undo": "",
    "redo": "",
    "once": "",
    "logs": "",
    "each": "1",
    "long": "",
    "cuts": "",
    "captains": "",
    "blocks": "",
    "packing": "",
    "rule": "",
    "net": "",
    "log": "s",
    "works": "s",
    "commands": "s",
    "unseen": "s",
    "seam": "hws",
}
MOST_LETTERS_OF_NAME = 12


def read_row(words, names):
    """The first word of a row, and what the parts behind it tell: names are told as hosts, several ones as a lot."""
    word = words.take(words.look() in ROW_PARTS)
    parts = [read_part(words, sign, names) for sign in ROW_PARTS[word]]
    words.end()
    return word, parts


def read_part(words, sign, names):
    """The next part of a row, as its sign wants it."""
    if sign == "f":
        return words.take(is_name(words.look()))
    if sign == "h":
        return read_host(words, names, [])
    if sign == "w":
        return words.take(words.look() in ("logs", "once"))
    if sign == "s":
        return read_lot(words, names)
    return words.number(int(sign))


def is_name(word):
    """Whether a word can be the name of a host."""
    if not 1 <= len(word) <= MOST_LETTERS_OF_NAME or word == "none":
        return False
    return word.isascii() and word.isalpha() and word.islower()


def read_host(words, names, met):
    """The next word as a host that was not met."""
    word = words.take(words.look() in names and names.index(words.look()) not in met)
    return names.index(word)


def read_lot(words, names):
    """All words that are left as a lot of one host or more."""
    hosts = [read_host(words, names, [])]
    while not words.ended():
        hosts.append(read_host(words, names, hosts))
    return tuple(sorted(hosts))
