"""Stories: events, each of which tells a deed that a cluster is to do, or what it is to be asked."""

from fifthhost.errors import BadStory, TooMany
from fifthhost.forms import is_number

MOST_EVENTS = 400
# For each word a sign for each part behind it: a number, votes, or letters, which may be None.
EVENT_PARTS = {
    "cut": "nn",
    "mend": "nn",
    "down": "n",
    "up": "n",
    "wipe": "n",
    "forget": "n",
    "restore": "nn",
    "begin": "nl",
    "put": "nnnl",
    "share": "n",
    "change": "nvnl",
    "read": "nnn",
    "show": "nn",
    "known": "n",
}


def made_story(thing):
    """The thing, if it is a story."""
    if type(thing) is not tuple:
        raise BadStory(-1)
    if len(thing) > MOST_EVENTS:
        raise TooMany(len(thing))
    for index, event in enumerate(thing):
        if not event_right(event):
            raise BadStory(index)
    return thing


def event_right(thing):
    """Whether the thing is an event."""
    if type(thing) is not tuple or thing == () or type(thing[0]) is not str or thing[0] not in EVENT_PARTS:
        return False
    signs = EVENT_PARTS[thing[0]]
    return len(thing) == 1 + len(signs) and all([part_right(sign, part) for sign, part in zip(signs, thing[1:])])


def part_right(sign, part):
    """Whether a part of an event is as its sign wants it."""
    if sign == "v":
        return type(part) is tuple and all([is_number(one) for one in part])
    return is_number(part) or sign == "l" and part is None
