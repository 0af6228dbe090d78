"""Rules made: any right rule of a net, with as few logs as can be."""

from fifthhost.bits import every_host, least_host, lot_of, pieces_within
from fifthhost.blocks import busy_hosts, kind_of, linked_within, round_from
from fifthhost.hueing import hue_lots
from fifthhost.hues import hue_of
from fifthhost.lots import in_order
from fifthhost.nets import made_net
from fifthhost.oneblock import all_sums, apart_from, least_lots, lot_works, votes_in
from fifthhost.tallies import tally_of, with_worth
from fifthhost.walks import walk_by


def rule_of(net):
    """Any rule by which no working lot is unruled, each log is below logs, and two that are apart get unlike ones."""
    made_net(net)
    tally = tally_of(net, "logs")
    return rule_within(tally, net[0], every_host(tally.near), 0)


def rule_within(tally, votes, bits, l):
    """A rule for the working lots of the hosts of bits, with the logs from l on."""
    strong = tally.strong_hosts(votes, bits)
    hosts = lot_of(strong)
    rule = rule_of_pieces(tally, votes, pieces_within(tally.near, bits ^ strong), l + len(hosts))
    for index, x in enumerate(hosts):
        rule = ("has", x, l + index, rule)
    return rule


def rule_of_pieces(tally, votes, pieces, l):
    """A rule for the working lots of pieces in which no host alone has the need."""
    busy = []
    rules = []
    for piece in pieces:
        number = tally.number_of_piece(votes, piece)
        if number > 0:
            busy.append(piece)
            rules.append(rule_of_piece(tally, votes, piece, number, l))
            l += number
    if not rules:
        return ("one", l)
    rule = rules.pop()
    while rules:
        v = least_host(busy.pop())
        rule = ("seam", v, lot_of(busy[-1]), 0, 0, rules.pop(), rule)
    return rule


def rule_of_piece(tally, votes, piece, number, l):
    """A rule for the working lots of one piece with this number of logs, in which no host alone has the need."""
    if number == 1:
        return ("one", l)
    steps, last, raised = tally.taken_off(votes, piece, 0)
    if not steps:
        return rule_of_block(tally, votes, piece, number, l)
    rules = []
    for step in steps:
        rules.append(rule_of_step(tally, step, l))
        l += step[2]
    rule = rule_within(tally, raised, last, l)
    for step, first in reversed(list(zip(steps, rules))):
        block, at, _, least, _ = step
        rule = ("seam", at, lot_of(block ^ (1 << at)), least, tally.need - least, first, rule)
    return rule


def rule_of_step(tally, step, l):
    """The first rule of the seam of a step: for its block, whose cut has just one vote less than the threshold."""
    block, at, _, least, votes = step
    # With a threshold of 0 no lot with the cut is asked there.
    if least == 0:
        return rule_within(tally, votes, block ^ (1 << at), l)
    return rule_within(tally, with_worth(votes, at, least - 1), block, l)


def rule_of_block(tally, votes, block, number, l):
    """A rule for the working lots of one block that want two logs or more, in which no host alone has the need."""
    linked = linked_within(tally.near, lot_of(block))
    told = kind_of(linked)
    if told == "ring":
        row = round_from(linked, min(linked))
        starts, _ = walk_by(votes_in(row, votes), tally.need)
        return ("ring", row, starts, number, l)
    if told == "other":
        return table_of_block(tally, votes, block, number, l)
    # Of two working lots that are apart just one has a given host of four, or a given hub.
    return ("has", busy_hosts(linked)[0], l, ("one", l + 1))


def table_of_block(tally, votes, block, number, l):
    """A table with a row for each working lot of a block: it gets the log of a least one that lies within it."""
    least = least_lots(tally.near, votes, tally.need, block)
    logs = logs_of_lots(least, number)
    table = {}
    for bits in all_sums([1 << x for x in lot_of(block)]):
        if lot_works(tally.near, votes, tally.need, bits):
            inner = [l + log for lot, log in zip(least, logs) if (bits & lot) == lot]
            table[lot_of(bits)] = inner[0]
    return ("table", tuple([(lot, table[lot]) for lot in in_order(list(table))]))


def logs_of_lots(lots, number):
    """A log below number for each of the lots, so that two that are apart get unlike ones."""
    found = hue_lots(apart_from(lots), number)
    return [hue_of(found, index) for index in range(len(lots))]
