"""What was known before: entries that cover one another, and two entries at one place."""

from fifthhost.entries import check_record, covers_by_index, entry_formed
from fifthhost.errors import BadEntry


def covers(one, two):
    """Whether the entry one covers the entry two."""
    for index, entry in enumerate((one, two)):
        if not entry_formed(entry):
            raise BadEntry(index)
    return covers_by_index((one, two))[0][1]


def fork(record):
    """The first two indices of entries with one name and one place; None if there are none."""
    check_record(record)
    met = {}
    for j, entry in enumerate(record):
        spot = entry[1:3]
        if spot in met:
            return (met[spot], j)
        met[spot] = j
    return None
