"""How many rows of rows a record has: entries without knowledge of one another, and chains of entries that know."""

from fifthhost.bits import bits_of, every_host, lot_of
from fifthhost.entries import check_record, covers_by_index
from fifthhost.errors import BadOrder
from fifthhost.hueing import paired_with


def spread(record):
    """As many indices as can be of entries none of which covers another one."""
    above = checked_order(record)
    before = joined(above)
    # From the last ones of chains on: what covers one that is reached, and what stands just ahead of that in its chain.
    reached = every_host(above) & ~bits_of([i for i in before if i is not None])
    covering = 0
    grown = True
    while grown:
        found = paired_with(above, reached)
        grown = found != covering
        covering = found
        reached |= bits_of([before[j] for j in lot_of(found)])
    return lot_of(reached & ~covering)


def chains(record):
    """All indices parted into as few chains as can be."""
    before = joined(checked_order(record))
    found = []
    chain_of = {}
    for j, i in enumerate(before):
        if i is None:
            chain_of[j] = len(found)
            found.append([j])
        else:
            chain_of[j] = chain_of[i]
            found[chain_of[i]].append(j)
    return tuple([tuple(chain) for chain in found])


def checked_order(record):
    """For each entry the bits of those that cover it; entries that stand in no order of time are refused."""
    check_record(record)
    table = covers_by_index(record)
    below = [bits_of([i for i, told in enumerate(row) if told]) for row in table]
    above = [bits_of([j for j, row in enumerate(table) if row[i]]) for i in range(len(record))]
    for j in range(len(record)):
        for i in range(j):
            if table[i][j] or not table[j][i] and below[j] & above[i]:
                raise BadOrder((i, j))
    # An entry may cover itself, but stands in a chain just once.
    return [bits & ~(1 << i) for i, bits in enumerate(above)]


def joined(above):
    """For each index the one just ahead of it in its chain, or None, so that the chains are as few as can be."""
    before = [None] * len(above)
    for i in range(len(above)):
        place_behind(above, before, i, {})
    return before


def place_behind(above, before, i, tried):
    """Whether one that covers i can stand just behind it, where others may be joined otherwise; before tells how."""
    for j in lot_of(above[i]):
        if j not in tried:
            tried[j] = True
            if before[j] is None or place_behind(above, before, before[j], tried):
                before[j] = i
                return True
    return False
