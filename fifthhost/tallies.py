"""The two numbers of a net, told by small steps: its blocks are taken off one by one, each at a cut."""

from fifthhost.bits import bits_of, every_host, lot_of, many_bits, near_of, piece_within, pieces_within
from fifthhost.blocks import blocks_by, blocks_within, kind_of, linked_within, round_from
from fifthhost.errors import TooMany
from fifthhost.oneblock import all_sums, logs_of_block, once_of_block

MOST_OTHER = 7
MOST_HUBS = 14
BOTH = ("once", "logs")


def check_blocks(near, bits):
    """Refuse hosts with a block that is too large for the two numbers to be told."""
    for block in blocks_by(near, bits):
        told = kind_of(linked_within(near, block))
        if told == "other" and len(block) > MOST_OTHER or told == "hubs" and len(block) > MOST_HUBS:
            raise TooMany(len(block))


class Tally:
    """One of the two numbers, for lots of hosts of one net, told as bits, which may have other votes than in the net.

    A step is a tuple (block, at, inner, least, votes): a block that was taken off, the cut at which it was, inner and
    threshold of the seam of this cut and the other hosts of the block, and the votes that all hosts had just then.
    """

    def __init__(self, net, which):
        self.near = near_of(net)
        self.need = net[2]
        self.which = which

    def number(self, votes, bits):
        """The number of the hosts of bits alone."""
        strong = self.strong_hosts(votes, bits)
        told = [self.number_of_piece(votes, piece) for piece in pieces_within(self.near, bits ^ strong)]
        return many_bits(strong) + sum(told)

    def strong_hosts(self, votes, bits):
        """The hosts of bits each of which has the need alone: each is one more, whatever the others are."""
        return bits_of([x for x in lot_of(bits) if votes[x] >= self.need])

    def number_of_piece(self, votes, piece):
        """The number of a piece in which no host alone has the need."""
        if sum([votes[x] for x in lot_of(piece)]) < self.need:
            return 0
        steps, last, raised = self.taken_off(votes, piece, 0)
        if not steps:
            return self.number_of_block(votes, piece)
        return sum([step[2] for step in steps]) + self.number(raised, last)

    def number_of_block(self, votes, block):
        """The number of a block in which no host alone has the need."""
        if self.which == "once":
            return once_of_block(self.near, votes, self.need, block)
        return logs_of_block(self.near, votes, self.need, block)

    def taken_off(self, votes, piece, kept):
        """The steps that take off all blocks of a piece but one, never the bit kept; that block, and the votes then."""
        left = blocks_within(self.near, piece)
        votes = list(votes)
        steps = []
        while len(left) > 1:
            block, at = end_block(left, kept)
            inner, least = self.seam(votes, block, at)
            steps.append((block, at, inner, least, list(votes)))
            votes[at] += self.need - least
            left.remove(block)
        return steps, left[0], votes

    def seam(self, votes, block, at):
        """The pair of inner and threshold of the seam of a host of a block and all its other hosts."""
        inner = self.number(votes, block ^ (1 << at))
        bounds = self.bounds(votes, block, at)
        low = 0
        high = len(bounds) - 1
        # With more votes the number never falls, and with the last bound, the need itself, it is always greater.
        while low < high:
            middle = (low + high) // 2
            if self.number(with_worth(votes, at, bounds[middle]), block) > inner:
                high = middle
            else:
                low = middle + 1
        return inner, bounds[low]

    def bounds(self, votes, block, at):
        """Numbers that rise up to the need, one of them the threshold: what lots of other hosts leave of the need."""
        linked = linked_within(self.near, lot_of(block))
        if kind_of(linked) == "ring":
            sums = stretch_sums([votes[x] for x in round_from(linked, at)[1:]])
        else:
            sums = all_sums([votes[x] for x in linked if x != at])
        return sorted(set([max(0, self.need - told) for told in sums]))

    def threshold(self, votes, bits, at):
        """The threshold of the seam of a host and all other hosts of bits."""
        kept = 1 << at
        piece = piece_within(self.near, bits, kept)
        _, last, raised = self.taken_off(with_worth(votes, at, 0), piece, kept)
        # What the other blocks of the host lend it need not be among its own votes.
        return max(0, self.seam(raised, last, at)[1] - raised[at])


def end_block(left, kept):
    """A block with just one cut, of several that hang together, and the cut; no other host of it has the bit kept."""
    met = 0
    cut_bits = 0
    for block in left:
        cut_bits |= met & block
        met |= block
    ends = [block for block in left if many_bits(block & cut_bits) == 1 and not block & ~cut_bits & kept]
    return ends[0], lot_of(ends[0] & cut_bits)[0]


def with_worth(votes, at, worth):
    """The votes, but the host at has others."""
    votes = list(votes)
    votes[at] = worth
    return votes


def stretch_sums(row):
    """The sums of some first and some last ones of a row, none of them taken twice."""
    ahead = sums_from(row)
    behind = sums_from(row[::-1])
    return [ahead[i] + behind[j] for i in range(len(ahead)) for j in range(len(ahead) - i)]


def sums_from(row):
    """The sums of the first ones of a row, from none of them to all."""
    sums = [0]
    for worth in row:
        sums.append(sums[-1] + worth)
    return sums


def tally_of(net, which):
    """The tally of a whole net that has no block too large."""
    tally = Tally(net, which)
    check_blocks(tally.near, every_host(tally.near))
    return tally
