"""The two numbers and a packing of one block in which no host alone has the need. Lots are told as bits."""

from fifthhost.bits import bits_hang, bits_of, lot_of, many_bits
from fifthhost.blocks import busy_hosts, kind_of, linked_within, round_from
from fifthhost.hueing import fewest_hues
from fifthhost.walks import numbers_by, parts_apart


def once_of_block(near, votes, need, block):
    """How many working lots of the block can be two by two apart."""
    return len(packed_block(near, votes, need, block))


def logs_of_block(near, votes, need, block):
    """How many logs are enough for the working lots of the block."""
    linked = linked_within(near, lot_of(block))
    told = kind_of(linked)
    if told == "ring":
        return numbers_by(votes_in(round_from(linked, min(linked)), votes), need, 1)[1]
    if told == "other":
        return fewest_hues(apart_from(least_lots(near, votes, need, block)))
    # Without a long ring both numbers are the same.
    return once_of_block(near, votes, need, block)


def packed_block(near, votes, need, block):
    """As many working lots of the block as can be two by two apart."""
    linked = linked_within(near, lot_of(block))
    told = kind_of(linked)
    if told == "ring":
        row = round_from(linked, min(linked))
        return [bits_of([row[index] for index in part]) for part in parts_apart(votes_in(row, votes), need)]
    if told == "hubs":
        return packed_hubs(linked, votes, need)
    return most_apart(least_lots(near, votes, need, block), block, {})


def votes_in(row, votes):
    """The votes of the hosts of a row, in its order."""
    return tuple([votes[x] for x in row])


def packed_hubs(linked, votes, need):
    """As packed_block, of a block of hubs: two working lots that are apart have a hub each."""
    one, two = busy_hosts(linked)
    others = [x for x in linked if x not in (one, two)]
    every = bits_of(list(linked))
    total = sum([votes[x] for x in linked])
    if total < need:
        return []
    for choice, told in enumerate(all_sums([votes[x] for x in others])):
        held = votes[one] + told
        if held >= need and total - held >= need:
            lot = bits_of([one] + [others[index] for index in lot_of(choice)])
            return [lot, every ^ lot]
    return [every]


def all_sums(worths):
    """The sums of all choices of some of the worths; the choices are numbered by their bits."""
    sums = [0]
    for worth in worths:
        sums = sums + [told + worth for told in sums]
    return sums


def least_lots(near, votes, need, block):
    """The working lots of a small block within which no other lot works."""
    ranked = [(many_bits(bits), bits) for bits in all_sums([1 << x for x in lot_of(block)])]
    least = []
    for _, bits in sorted(ranked):
        # A lot within which a lesser one works is left out ahead of the dearer questions.
        if not any([(bits & inner) == inner for inner in least]) and lot_works(near, votes, need, bits):
            least.append(bits)
    return least


def lot_works(near, votes, need, bits):
    """Whether the lot of bits has votes enough and hangs together."""
    return sum([votes[x] for x in lot_of(bits)]) >= need and bits_hang(near, bits)


def most_apart(lots, rest, known):
    """As many of the lots as can be two by two apart within rest; known keeps what was told before."""
    if rest == 0:
        return []
    if rest not in known:
        lowest = rest & -rest
        best = most_apart(lots, rest ^ lowest, known)
        for lot in lots:
            if lot & lowest and (lot & rest) == lot:
                told = [lot] + most_apart(lots, rest ^ lot, known)
                best = told if len(told) > len(best) else best
        known[rest] = best
    return known[rest]


def apart_from(lots):
    """For each lot the bits of the indices of those that are apart from it."""
    return [bits_of([index for index, other in enumerate(lots) if not lot & other]) for lot in lots]
