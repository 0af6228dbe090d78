"""Stories run: what a new cluster tells or refuses of each event."""

from fifthhost.cluster import Cluster
from fifthhost.errors import Refused
from fifthhost.events import made_story
from fifthhost.rules import made_rule


def run(net, rule, story):
    """For each event of a story what a cluster told, or the name of the error by which it refused."""
    made_rule(net, rule)
    made_story(story)
    deeds = deeds_of(Cluster(net, rule))
    return tuple([told_of(deeds, event) for event in story])


def deeds_of(cluster):
    """For each word of an event the method that does it."""
    return {
        "cut": cluster.cut,
        "mend": cluster.mend,
        "down": cluster.down,
        "up": cluster.up,
        "wipe": cluster.wipe,
        "forget": cluster.forget,
        "restore": cluster.restore,
        "begin": cluster.begin,
        "put": cluster.put,
        "share": cluster.share,
        "change": cluster.change,
        "read": cluster.read,
        "show": cluster.show,
        "known": cluster.known,
    }


def told_of(deeds, event):
    """The pair that tells what became of one event."""
    try:
        return ("told", done(deeds, event))
    except Refused as refused:
        return ("refused", refused.name)


def done(deeds, event):
    """What the method of an event returns."""
    deed = deeds[event[0]]
    parts = event[1:]
    # The last two parts are one name there.
    if event[0] == "read":
        parts = (event[1], event[2:])
    return deed(*parts)
