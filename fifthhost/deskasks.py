"""The rows of a desk that ask: what is told of its net, with names for hosts."""

from fifthhost.bits import near_of
from fifthhost.blocks import blocks, cuts, kind_of, linked_within
from fifthhost.captains import captains
from fifthhost.counts import logs, once
from fifthhost.dealing import log_of
from fifthhost.longrings import long_ring
from fifthhost.lots import works
from fifthhost.making import rule_of
from fifthhost.nettexts import net_text
from fifthhost.packings import packing
from fifthhost.readers import commands, unseen
from fifthhost.ruletexts import rule_text
from fifthhost.seams import inner, threshold
from fifthhost.several import each
from fifthhost.words import figures

NONE = "none"


def ask_once(names, net):
    """How many lots can be at work at once."""
    return figures(once(net))


def ask_logs(names, net):
    """How many logs are enough."""
    return figures(logs(net))


def ask_each(names, net, t):
    """How many logs are enough if each lot gets several."""
    return figures(each(net, t))


def ask_long(names, net):
    """A long ring."""
    return named(names, long_ring(net))


def ask_cuts(names, net):
    """All cuts."""
    return named(names, cuts(net))


def ask_captains(names, net):
    """Captains."""
    return named(names, captains(net))


def ask_blocks(names, net):
    """All blocks, each behind its kind."""
    near = near_of(net)
    return listed([kind_of(linked_within(near, block)) + " " + named(names, block) for block in blocks(net)])


def ask_packing(names, net):
    """As many lots as can be at work at once."""
    return listed([named(names, lot) for lot in packing(net)])


def ask_rule(names, net):
    """A right rule."""
    return rule_text(net, rule_of(net))


def ask_net(names, net):
    """The net."""
    return net_text(net)


def ask_log(names, net, lot):
    """The log of a lot by a right rule."""
    return figures(log_of(net, rule_of(net), lot))


def ask_works(names, net, lot):
    """Whether a lot works."""
    return yes_or_no(works(net, lot))


def ask_commands(names, net, lot):
    """Whether a lot commands."""
    return yes_or_no(commands(net, lot))


def ask_unseen(names, net, lot):
    """A piece that works unseen by a lot."""
    return named(names, unseen(net, lot))


def ask_seam(names, net, v, which, side):
    """What a seam tells of its side."""
    return f"inner {figures(inner(net, v, side, which))} least {figures(threshold(net, v, side, which))}"


def named(names, hosts):
    """The names of hosts; none if there are no hosts."""
    return " ".join([names[x] for x in hosts]) if hosts else NONE


def listed(told):
    """Several things that are told, with semicolons between them; none if there is nothing."""
    return " ; ".join(told) if told else NONE


def yes_or_no(answer):
    """The word of an answer."""
    return "yes" if answer else "no"


ASKS = {
    "once": ask_once,
    "logs": ask_logs,
    "each": ask_each,
    "long": ask_long,
    "cuts": ask_cuts,
    "captains": ask_captains,
    "blocks": ask_blocks,
    "packing": ask_packing,
    "rule": ask_rule,
    "net": ask_net,
    "log": ask_log,
    "works": ask_works,
    "commands": ask_commands,
    "unseen": ask_unseen,
    "seam": ask_seam,
}
