"""Deeds that go by letters in three rounds: which letters come, and what they do to the disks of a lot."""

from fifthhost.errors import BadLetters
from fifthhost.forms import number_from
from fifthhost.laying import knows_of
from fifthhost.members import all_heard, greatest_pairs

MANY_ROUNDS = 3


def check_coming(letters, lot):
    """Refuse what is neither None nor how many letters to the hosts of a lot can come."""
    if letters is not None and (not number_from(letters, 0) or letters > MANY_ROUNDS * len(lot)):
        raise BadLetters(letters)


def coming(disks, letters):
    """The pairs of a round and a disk of the letters that come, one behind another; all of them if letters is None."""
    every = [(turn, disk) for turn in range(MANY_ROUNDS) for disk in disks]
    return every if letters is None else every[:letters]


def enough_came(disks, letters):
    """Whether the letters of two rounds came, by which a deed is done."""
    return letters is None or letters >= 2 * len(disks)


def lay_rounds(disks, letters, rounds):
    """Lay those that come of three rounds of letters, and tell whether they are enough."""
    for turn, disk in coming(disks, letters):
        disk.lay(rounds[turn])
    return enough_came(disks, letters)


def decide(disks, letters, e, votes, need):
    """Send the letters by which an edition behind e is decided; the edition if enough of them came, otherwise None."""
    number = 1 + max([disk.book(e)[0] for disk in disks])
    edition = proposal_of(disks, e, votes, need)
    for turn, disk in coming(disks, letters):
        promise, taken, proposal = disk.book(e)
        if turn == 0:
            disk.books[e] = (number, taken, proposal)
        elif turn == 1:
            disk.books[e] = (promise, number, edition)
        else:
            disk.learn(edition)
    return edition if enough_came(disks, letters) else None


def proposal_of(disks, e, votes, need):
    """The proposal that goes out: these votes and this need, unless one is in a book already."""
    pairs = all_heard(disks)
    books = [disk.book(e) for disk in disks if disk.book(e)[2] is not None]
    if books:
        votes, need, knows = max(books, key=lambda book: book[1])[2]
        pairs = greatest_pairs([pairs, {know[:2]: know[2:] for know in knows}])
    return (votes, need, knows_of(pairs))
