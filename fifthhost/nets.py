"""Nets: hosts with votes, links between them, and a need."""

from fifthhost.errors import BadHost, BadLinks, BadNeed, BadNet, BadVotes, Refused, TooMany
from fifthhost.forms import number_below, number_from, tuple_of, wrong_number, wrong_pair

MOST_HOSTS = 40


def made_net(thing):
    """The thing, if it is a net."""
    if not tuple_of(thing, 3):
        raise BadNet(-1)
    votes, links, need = thing
    check_all_votes(votes)
    check_links(links, len(votes))
    check_need(need)
    return thing


def is_net(thing):
    """Whether the thing is a net."""
    try:
        made_net(thing)
    except Refused:
        return False
    return True


def check_all_votes(votes):
    """Refuse what are no votes of the hosts of a net."""
    if type(votes) is not tuple:
        raise BadVotes(-1)
    # The length comes first: of a tuple that is too long no place is told.
    if len(votes) > MOST_HOSTS:
        raise TooMany(len(votes))
    place = wrong_number(votes, 0)
    if place is not None:
        raise BadVotes(place)


def check_links(links, many):
    """Refuse what are no links between so many hosts."""
    if type(links) is not tuple:
        raise BadLinks(-1)
    index = wrong_pair(links, many)
    if index is not None:
        raise BadLinks(index)


def check_need(need):
    """Refuse what is no need."""
    if not number_from(need, 1):
        raise BadNeed(need)


def check_votes(votes):
    """Refuse what are no votes of one host."""
    if not number_from(votes, 0):
        raise BadVotes(votes)


def check_host(net, x):
    """Refuse what is no host of the net."""
    if not number_below(x, len(net[0])):
        raise BadHost(x)
