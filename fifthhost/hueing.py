"""The search for hues: near holds for each point the bits of the points that it is in a pair with."""

from fifthhost.bits import every_host, least_host, lot_of, many_bits, pieces_within


def fewest_hues(near):
    """The least number of hues that is enough for all points."""
    k = 0
    while hue_lots(near, k) is None:
        k += 1
    return k


def hue_lots(near, k):
    """All points parted into k lots, as bits, none of which holds both points of a pair; None if there are none."""
    return parted(near, every_host(near), k, {})


def parted(near, bits, k, failed):
    """As hue_lots, of the points of bits; failed keeps what was found not to be parted so."""
    left, loose = loosened(near, bits, k)
    lots = [0] * k
    for piece in pieces_within(near, left):
        found = parted_piece(near, piece, k, failed)
        if found is None:
            return None
        lots = [lot | more for lot, more in zip(lots, found)]
    for point in reversed(loose):
        room = [index for index in range(k) if not lots[index] & near[point]]
        lots[room[0]] |= 1 << point
    return lots


def loosened(near, bits, k):
    """The points of bits without loose ones, and these: each finds room in any k lots of the points behind it."""
    loose = []
    before = -1
    while before != bits:
        before = bits
        for point in lot_of(bits):
            if many_bits(near[point] & bits) < k:
                loose.append(point)
                bits ^= 1 << point
    return bits, loose


def parted_piece(near, bits, k, failed):
    """As parted, of points that hang together by pairs, each of which is in pairs with k others of them or more."""
    if k < 2 or (bits, k) in failed:
        return None
    if k == 2:
        return two_lots(near, bits)
    if all_paired(near, bits) <= k:
        for lot in lots_with(near, bits, busiest(near, bits)):
            found = parted(near, bits ^ lot, k - 1, failed)
            if found is not None:
                return found + [lot]
    failed[(bits, k)] = True
    return None


def all_paired(near, bits):
    """How many points of bits, taken as they come, are in pairs with one another; all of these want unlike hues."""
    many = 0
    while bits:
        bits &= near[busiest(near, bits)]
        many += 1
    return many


def two_lots(near, bits):
    """As parted, into two lots: from one point on all others are forced."""
    lots = [0, 0]
    edge = 1 << least_host(bits)
    turn = 0
    while edge:
        lots[turn] |= edge
        found = paired_with(near, edge) & bits
        if found & lots[turn]:
            return None
        turn = 1 - turn
        edge = found & ~lots[turn]
    return lots


def paired_with(near, bits):
    """The points that are in a pair with one of bits."""
    found = 0
    for point in lot_of(bits):
        found |= near[point]
    return found


def busiest(near, bits):
    """The first of the points of bits that are in the most pairs with others of them."""
    return max(lot_of(bits), key=lambda point: many_bits(near[point] & bits))


def lots_with(near, bits, point):
    """All greatest lots of points of bits that have this point and hold both points of no pair, the larger ahead."""
    # A lot that is not greatest is never needed: each point that could join it may as well do so.
    found = []
    add_greatest(near, 1 << point, bits & ~near[point] & ~(1 << point), 0, found)
    ranked = [(many_bits(lot), lot) for lot in found]
    return [lot for _, lot in sorted(ranked, key=lambda row: -row[0])]


def add_greatest(near, lot, free, met, found):
    """Add to found all greatest lots that have this one and else only points of free; met are those tried already."""
    if (free | met) == 0:
        found.append(lot)
        return
    # Each greatest lot has the pivot or a point that is in a pair with it, so only these are to be tried.
    pivot = min(lot_of(free | met), key=lambda one: many_bits(free & (near[one] | (1 << one))))
    for point in lot_of(free & (near[pivot] | (1 << pivot))):
        bit = 1 << point
        other = ~(near[point] | bit)
        add_greatest(near, lot | bit, free & other, met & other, found)
        free ^= bit
        met |= bit
