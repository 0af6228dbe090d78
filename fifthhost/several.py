"""How many logs are enough if each working lot gets several."""

from fifthhost.bits import every_host, lot_of
from fifthhost.blocks import blocks_within, kind_of, linked_within, round_from
from fifthhost.errors import NoRule
from fifthhost.longrings import has_long
from fifthhost.nets import made_net
from fifthhost.oneblock import votes_in
from fifthhost.tallies import Tally, check_blocks
from fifthhost.walks import check_times, numbers_by


def each(net, t):
    """How many logs are enough if each working lot gets t, and two that are apart get no common one."""
    made_net(net)
    check_times(t)
    tally = Tally(net, "once")
    every = every_host(tally.near)
    row = one_ring(tally.near, every)
    if row is not None:
        return numbers_by(votes_in(row, net[0]), net[2], t)[1]
    if has_long(tally.near, every):
        raise NoRule(0)
    check_blocks(tally.near, every)
    return t * tally.number(net[0], every)


def one_ring(near, every):
    """All hosts in their order round the ring, if they lie in one block of the kind "ring"; None otherwise."""
    if blocks_within(near, every) != [every]:
        return None
    linked = linked_within(near, lot_of(every))
    if kind_of(linked) != "ring":
        return None
    return round_from(linked, 0)
