"""The rows of a desk that change its net: each one tells the names and the net behind it."""

from fifthhost.errors import Same
from fifthhost.netedits import with_host, with_link, with_need, with_votes, without_host, without_link


def edit_host(names, net, name, votes):
    """A further host."""
    if name in names:
        raise Same(name)
    return names + (name,), with_host(net, votes)


def edit_votes(names, net, x, votes):
    """Other votes of a host."""
    return names, with_votes(net, x, votes)


def edit_need(names, net, need):
    """Another need."""
    return names, with_need(net, need)


def edit_link(names, net, a, b):
    """A link more."""
    return names, with_link(net, a, b)


def edit_unlink(names, net, a, b):
    """A link less."""
    return names, without_link(net, a, b)


def edit_drop(names, net, x):
    """A host less."""
    return names[:x] + names[x + 1:], without_host(net, x)


EDITS = {
    "host": edit_host,
    "votes": edit_votes,
    "need": edit_need,
    "link": edit_link,
    "unlink": edit_unlink,
    "drop": edit_drop,
}
