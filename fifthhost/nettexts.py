"""Nets as texts: a line for the need, one for each host, one for each link."""

from fifthhost.nets import MOST_HOSTS, made_net
from fifthhost.words import Words, check_text, figures


def net_text(net):
    """The text of a net."""
    made_net(net)
    votes, links, need = net
    lines = ["need " + figures(need)]
    lines.extend([f"host {x} votes {figures(worth)}" for x, worth in enumerate(votes)])
    lines.extend([f"link {a} {b}" for a, b in links])
    return "\n".join(lines)


def read_net(text):
    """The net of a text."""
    check_text(text)
    lines = text.split("\n")
    need = read_need(Words(lines[0], 0))
    votes = []
    links = []
    for index in range(1, len(lines)):
        read_line(Words(lines[index], index), votes, links)
    return (tuple(votes), tuple(links), need)


def read_need(words):
    """The need of the first line."""
    words.word("need")
    need = words.number(1)
    words.end()
    return need


def read_line(words, votes, links):
    """Read a line behind the first one, and add its votes or its link to those of the lines ahead."""
    first = words.look()
    words.take(first == "link" or first == "host" and not links)
    if first == "host":
        words.take(len(votes) < MOST_HOSTS and words.look() == str(len(votes)))
        words.word("votes")
        votes.append(words.number(0))
    else:
        links.append(read_link(words, len(votes), links[-1] if links else (0, 0)))
    words.end()


def read_link(words, many, ahead):
    """The link of a line, given how many hosts there are and the link of the line ahead."""
    a = words.number(ahead[0], many)
    b = words.number(1 + (ahead[1] if a == ahead[0] else a), many)
    return (a, b)
