"""The store: a net whose hosts write rows into logs, by a rule, while links break, hosts go down and disks go blank."""

from fifthhost.bits import bits_of, lot_of, near_of, piece_within, pieces_within, with_pair, without_pair
from fifthhost.cells import check_name, key_right
from fifthhost.dealing import log_by
from fifthhost.errors import (Already, BadEdition, BadKey, BadNumber, BadPlace, BadValue, BadVotes, Blank, Down,
                              Harmful, NoLetter, NoLink, NotBlank, NotCommanding, NotDown, NotLet, NotOpen, NotSealed,
                              NotSettled, NotWorking, Unruled)
from fifthhost.forms import is_number, number_from, smaller_first, tuple_of, wrong_number
from fifthhost.laying import Disk, knows_of
from fifthhost.lots import lots_of, sum_of_votes
from fifthhost.making import rule_of
from fifthhost.members import (all_heard, fullest_cell, greatest_promise, greatest_sure, last_pairs, learn_all,
                               most_learnt, opened_as, restored_from, rows_with_key, share_all, uncovered)
from fifthhost.nets import check_host, check_need
from fifthhost.readers import commands, unseen
from fifthhost.restores import check_restores, piece_without
from fifthhost.rounds import check_coming, decide, lay_rounds
from fifthhost.rules import made_rule
from fifthhost.tallies import tally_of


class Cluster:
    """A net that runs by a rule: what its hosts know, what they got, and the rows that were put."""

    def __init__(self, net, rule, restores=None):
        made_rule(net, rule)
        if restores is not None:
            check_restores(net, restores)
        self.net = net
        self.rule = rule
        self.let = restores
        # The whole links, the hosts that are up, and for each host its disk; None is a blank one.
        self.near = near_of(net)
        self.awake = [True] * len(net[0])
        self.disks = [Disk(self.first_edition()) for _ in net[0]]
        # The rules of editions that were asked for, by their votes and need.
        self.rules = {}
        self.entries = []

    def cut(self, a, b):
        """Break a link."""
        pair = self.linked_pair(a, b)
        if not self.is_whole(pair):
            raise Already(pair)
        self.near = without_pair(self.near, a, b)

    def mend(self, a, b):
        """Make a link whole."""
        pair = self.linked_pair(a, b)
        if self.is_whole(pair):
            raise Already(pair)
        self.near = with_pair(self.near, a, b)

    def down(self, x):
        """Let a host go down."""
        check_host(self.net, x)
        if not self.awake[x]:
            raise Already(x)
        self.awake[x] = False

    def up(self, x):
        """Let a host come up."""
        check_host(self.net, x)
        if self.awake[x]:
            raise Already(x)
        self.awake[x] = True

    def wipe(self, x):
        """Make the disk of a host that is down blank."""
        check_host(self.net, x)
        if self.awake[x]:
            raise NotDown(x)
        if self.disks[x] is None:
            raise Already(x)
        self.disks[x] = None

    def parts(self):
        """All parts, by their least hosts."""
        return lots_of(pieces_within(self.near, self.hosts_at_work()))

    def part(self, x):
        """The part of a host that is up and not blank."""
        self.check_at_work(x)
        return lot_of(piece_within(self.near, self.hosts_at_work(), 1 << x))

    def state(self, x):
        """Whether a host is up or down, and its disk blank or written."""
        check_host(self.net, x)
        return ("up" if self.awake[x] else "down", "blank" if self.disks[x] is None else "written")

    def link(self, a, b):
        """Whether a link is whole or broken."""
        return "whole" if self.is_whole(self.linked_pair(a, b)) else "broken"

    def edition(self, x):
        """The greatest edition that a host knows."""
        return len(self.disk_of(x).learnt) - 1

    def cell(self, x, name):
        """The cell that a host has for a name."""
        disk = self.disk_of(x)
        check_name(name)
        return disk.cell(name)

    def heard(self, x):
        """What a host has heard, as knows."""
        return knows_of(self.disk_of(x).pairs)

    def begin(self, x, letters=None):
        """Open the log of the part of a host."""
        lot = self.part(x)
        name = self.name_of(lot)
        check_coming(letters, lot)
        disks = self.disks_of(lot)
        learn_all(disks)
        number = 1 + greatest_promise(disks, name)
        rows = fullest_cell(disks, name)[3]
        rounds = (("promise", name, number), ("take", name, number, lot, rows), ("sure", name, len(rows), lot))
        return number if lay_rounds(disks, letters, rounds) else None

    def put(self, x, key, value, letters=None):
        """Put a row behind those of the log of the part of a host."""
        lot = self.part(x)
        if not key_right(key):
            raise BadKey(key)
        if not is_number(value):
            raise BadValue(value)
        name = self.name_of(lot)
        disks = self.disks_of(lot)
        if not opened_as(disks, name, lot):
            raise NotOpen(name)
        check_coming(letters, lot)
        learn_all(disks)
        number, _, _, rows, _ = disks[0].cell(name)
        place = len(rows)
        row = (number, key, value, knows_of(all_heard(disks)))
        rounds = (("note", name, row, place), ("hold", name, row), ("sure", name, place + 1, lot))
        if not lay_rounds(disks, letters, rounds):
            return None
        self.entries.append((lot, name, place) + row)
        return place

    def share(self, x):
        """Let all members of the part of a host have what one of them has."""
        disks = self.disks_of(self.part(x))
        learn_all(disks)
        share_all(disks)

    def read(self, x, name):
        """The rows of a name that the part of a host has, and how many of them it is sure of."""
        disks = self.disks_of(self.part(x))
        check_name(name)
        return (fullest_cell(disks, name)[3], greatest_sure(disks, name))

    def known(self, x):
        """What the part of a host has heard, as knows."""
        return knows_of(all_heard(self.disks_of(self.part(x))))

    def show(self, x, key):
        """The rows with a key that the part of a host has and that no other one of them covers."""
        disks = self.disks_of(self.part(x))
        if not key_right(key):
            raise BadKey(key)
        return uncovered(rows_with_key(disks, key))

    def final(self, name, number, place):
        """Whether no lot that could ever work by an edition has not heard of a row."""
        check_name(name)
        if not number_from(number, 1):
            raise BadNumber(number)
        if not number_from(place, 0):
            raise BadPlace(place)
        pair = (number, place + 1)
        others = tuple([x for x, disk in enumerate(self.disks) if disk is None or disk.pair(name) >= pair])
        told = self.all_editions()
        open_ones = [edition for e, edition in enumerate(told) if not self.is_sealed(e, edition)]
        return all([unseen(self.net_by(edition), others) is None for edition in open_ones])

    def record(self):
        """An entry for each row that is done."""
        return tuple(self.entries)

    def change(self, x, votes, need, letters=None):
        """Decide the next edition."""
        lot = self.part(x)
        self.check_all_votes(votes)
        check_need(need)
        tally_of((votes, self.net[1], need), "logs")
        disks = self.disks_of(lot)
        e, net = self.edition_of(lot)
        if not commands(net, lot):
            raise NotCommanding(lot)
        check_coming(letters, lot)
        learn_all(disks)
        decided = decide(disks, letters, e, votes, need)
        return None if decided is None else (e + 1,) + decided[:2]

    def book(self, x, e):
        """The book that a host has for an edition."""
        disk = self.disk_of(x)
        if not number_from(e, 0):
            raise BadEdition(e)
        return disk.book(e)

    def editions(self):
        """The votes and the need of each edition that any host knows."""
        return tuple([edition[:2] for edition in self.all_editions()])

    def sealed(self, e):
        """Whether no lot will ever work by an edition again."""
        return self.is_sealed(e, self.known_edition(e))

    def ends(self, e):
        """For each log of a sealed edition the pair that was the last one when the edition was left."""
        edition = self.known_edition(e)
        if not self.is_sealed(e, edition):
            raise NotSealed(e)
        later = [disk for disk in self.written_disks() if len(disk.learnt) > e + 1]
        pairs = last_pairs(later, e)
        return tuple([(l,) + pairs[l] for l in sorted(pairs)])

    def restore(self, x, y):
        """Write the blank disk of a host from the part of another one."""
        check_host(self.net, x)
        if not self.awake[x]:
            raise Down(x)
        if self.disks[x] is not None:
            raise NotBlank(x)
        lot = self.part(y)
        pair = smaller_first(x, y)
        if not self.is_whole(pair):
            raise NoLink(pair)
        self.check_restore(x, lot)
        disks = self.disks_of(lot)
        editions = list(most_learnt(disks))
        learn_all(disks)
        self.disks[x] = restored_from(disks, editions)

    def letters(self, x):
        """The letters that a host got since its disk was last blank, but those that were forgotten."""
        return tuple(self.disk_of(x).got)

    def forget(self, x):
        """Strike the last letter of a host that is down, and tell its first word."""
        check_host(self.net, x)
        if self.awake[x]:
            raise NotDown(x)
        disk = self.disk_of(x)
        if not disk.got:
            raise NoLetter(x)
        return disk.strike()

    def linked_pair(self, a, b):
        """The pair of two hosts that the net links; others are refused."""
        check_host(self.net, a)
        check_host(self.net, b)
        pair = smaller_first(a, b)
        if pair not in self.net[1]:
            raise NoLink(pair)
        return pair

    def is_whole(self, pair):
        """Whether there is a whole link of a pair of hosts."""
        return (self.near[pair[0]] >> pair[1]) & 1 == 1

    def hosts_at_work(self):
        """The bits of all hosts that are up and not blank."""
        return bits_of([x for x, disk in enumerate(self.disks) if self.awake[x] and disk is not None])

    def check_at_work(self, x):
        """Refuse what is no host, one that is down, and one that is blank."""
        check_host(self.net, x)
        if not self.awake[x]:
            raise Down(x)
        self.disk_of(x)

    def disk_of(self, x):
        """The disk of a host; a blank one is refused."""
        check_host(self.net, x)
        if self.disks[x] is None:
            raise Blank(x)
        return self.disks[x]

    def disks_of(self, lot):
        """The disks of the hosts of a part."""
        return [self.disks[x] for x in lot]

    def written_disks(self):
        """All disks that are not blank."""
        return [disk for disk in self.disks if disk is not None]

    def net_by(self, edition):
        """The net of an edition."""
        return (edition[0], self.net[1], edition[1])

    def edition_of(self, lot):
        """The edition of a part, and its net."""
        editions = most_learnt(self.disks_of(lot))
        return len(editions) - 1, self.net_by(editions[-1])

    def rule_by(self, e, net):
        """The rule of an edition, which has this net."""
        if e == 0:
            return self.rule
        # To make a rule takes long, so it is made once for all editions that are alike.
        key = (net[0], net[2])
        if key not in self.rules:
            self.rules[key] = rule_of(net)
        return self.rules[key]

    def name_of(self, lot):
        """The name of the log of a part; one that does not work or is unruled is refused."""
        e, net = self.edition_of(lot)
        if sum_of_votes(net, lot) < net[2]:
            raise NotWorking(lot)
        log = log_by(net[0], self.rule_by(e, net), lot)
        if log is None:
            raise Unruled(lot)
        return (e, log)

    def check_all_votes(self, votes):
        """Refuse what are no votes of all hosts."""
        if not tuple_of(votes, len(self.net[0])):
            raise BadVotes(-1)
        place = wrong_number(votes, 0)
        if place is not None:
            raise BadVotes(place)

    def all_editions(self):
        """All editions that any host knows; the first one is there always."""
        disks = self.written_disks()
        return most_learnt(disks) if disks else [self.first_edition()]

    def first_edition(self):
        """The edition of the net that was handed in; nothing was known ahead of it."""
        return (self.net[0], self.net[2], ())

    def known_edition(self, e):
        """The edition of this number; one that no host knows is refused."""
        editions = self.all_editions()
        if not number_from(e, 0) or e >= len(editions):
            raise BadEdition(e)
        return editions[e]

    def is_sealed(self, e, edition):
        """Whether no lot can work that knows nothing above an edition."""
        later = [x for x, disk in enumerate(self.disks) if disk is not None and len(disk.learnt) > e + 1]
        return unseen(self.net_by(edition), tuple(later)) is None

    def check_restore(self, x, lot):
        """Refuse to restore a host from a part that must not do so."""
        if self.let is not None:
            if (x, lot) not in self.let:
                raise NotLet((x, lot))
            return
        disks = self.disks_of(lot)
        nets = [self.net_by(edition) for edition in most_learnt(disks)]
        if sum_of_votes(nets[-1], lot) < nets[-1][2]:
            raise NotWorking(lot)
        if any([disk.book(len(nets) - 1)[2] is not None for disk in disks]):
            raise NotSettled(lot)
        piece = piece_without(self.net, x, lot)
        if any([sum_of_votes(net, piece) >= net[2] for net in nets]):
            raise Harmful(piece)
