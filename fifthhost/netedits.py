"""Nets made from nets: other votes, needs and links, more hosts and fewer, hosts renamed, two nets as one."""

from fifthhost.errors import Already, BadOrder, NoLink, Same, TooMany, Unlike
from fifthhost.forms import smaller_first, tuple_of, wrong_number
from fifthhost.lots import made_lot
from fifthhost.nets import MOST_HOSTS, check_host, check_need, check_votes, made_net


def with_votes(net, x, votes):
    """The net in which the host x has these votes."""
    made_net(net)
    check_host(net, x)
    check_votes(votes)
    return (net[0][:x] + (votes,) + net[0][x + 1:], net[1], net[2])


def with_need(net, need):
    """The net with this need."""
    made_net(net)
    check_need(need)
    return (net[0], net[1], need)


def with_link(net, a, b):
    """The net in which the hosts a and b are linked."""
    check_two_hosts(net, a, b)
    if a == b:
        raise Same(a)
    pair = smaller_first(a, b)
    if pair in net[1]:
        raise Already(pair)
    return (net[0], tuple(sorted(net[1] + (pair,))), net[2])


def without_link(net, a, b):
    """The net in which the hosts a and b are not linked."""
    check_two_hosts(net, a, b)
    pair = smaller_first(a, b)
    if pair not in net[1]:
        raise NoLink(pair)
    return (net[0], tuple([link for link in net[1] if link != pair]), net[2])


def check_two_hosts(net, a, b):
    """Refuse what is no net, and what are no hosts of it."""
    made_net(net)
    check_host(net, a)
    check_host(net, b)


def with_host(net, votes):
    """The net with a further host behind all others, which has these votes and no links."""
    made_net(net)
    check_votes(votes)
    check_room(len(net[0]) + 1)
    return (net[0] + (votes,), net[1], net[2])


def check_room(many):
    """Refuse more hosts than a net can have."""
    if many > MOST_HOSTS:
        raise TooMany(many)


def cut_net(net, lot):
    """The net of the hosts of a lot alone."""
    made_lot(net, lot)
    return net_by(net, lot)


def without_host(net, x):
    """The net of all hosts but x."""
    made_net(net)
    check_host(net, x)
    return net_by(net, [host for host in range(len(net[0])) if host != x])


def renamed(net, order):
    """The net whose host i is what the host order[i] was."""
    made_net(net)
    if not orders_all(order, len(net[0])):
        raise BadOrder(-1)
    return net_by(net, order)


def orders_all(order, many):
    """Whether the order is a tuple of so many hosts, each once."""
    # What are no numbers may not be comparable, so it is asked ahead of the sorting.
    if not tuple_of(order, many) or wrong_number(order, 0) is not None:
        return False
    return sorted(order) == list(range(many))


def net_by(net, hosts):
    """The net whose host i is hosts[i] of the net; hosts that are not told there are left out."""
    place = {host: index for index, host in enumerate(hosts)}
    links = [smaller_first(place[a], place[b]) for a, b in net[1] if a in place and b in place]
    return (tuple([net[0][host] for host in hosts]), tuple(sorted(links)), net[2])


def beside(one, two):
    """The net of the hosts of both nets, those of the second one behind those of the first one."""
    made_net(one)
    made_net(two)
    if one[2] != two[2]:
        raise Unlike(0)
    behind = len(one[0])
    check_room(behind + len(two[0]))
    moved = tuple([(a + behind, b + behind) for a, b in two[1]])
    return (one[0] + two[0], one[1] + moved, one[2])
