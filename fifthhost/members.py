"""What the disks of several hosts tell together, rising by their hosts, and how these hosts come to know alike."""

from fifthhost.laying import NO_PAIR, Disk


def fullest_cell(disks, name):
    """The cell of a name with the greatest (taken, how many rows), the one of the first disk of several."""
    return max([disk.cell(name) for disk in disks], key=lambda cell: (cell[1], len(cell[3])))


def greatest_promise(disks, name):
    """The greatest promise in the cells of a name."""
    return max([disk.cell(name)[0] for disk in disks])


def greatest_sure(disks, name):
    """The greatest sure in the cells of a name."""
    return max([disk.cell(name)[4] for disk in disks])


def most_learnt(disks):
    """The editions of the disk that knows the most, the first one of several."""
    return max(disks, key=lambda disk: len(disk.learnt)).learnt


def learn_all(disks):
    """Let all come to know what one of them knows."""
    most = list(most_learnt(disks))
    for disk in disks:
        for edition in most[len(disk.learnt):]:
            disk.learn(edition)


def greatest_pairs(pairs_of_many):
    """For each name the greatest of the pairs that are told of it."""
    greatest = {}
    for pairs in pairs_of_many:
        for name in pairs:
            greatest[name] = max(pairs[name], greatest.get(name, NO_PAIR))
    return greatest


def all_heard(disks):
    """For each name the greatest pair that was heard."""
    return greatest_pairs([disk.pairs for disk in disks])


def all_names(disks):
    """All names that have a cell or of which something was heard, rising."""
    names = {}
    for disk in disks:
        for name in list(disk.cells) + list(disk.pairs):
            names[name] = True
    return sorted(names)


def share_all(disks):
    """Let all have the fullest cells, and have heard what one of them has."""
    told = []
    for name in all_names(disks):
        pair = max([disk.pair(name) for disk in disks])
        told.append((name, fullest_cell(disks, name), greatest_sure(disks, name), pair))
    # All is told of the disks as they were, so no copy is laid ahead of that.
    wanted = [[(name, shared_cell(disk.cell(name), fullest, sure), pair) for name, fullest, sure, pair in told]
              for disk in disks]
    for disk, entries in zip(disks, wanted):
        lay_changes(disk, entries)


def shared_cell(cell, fullest, sure):
    """What a share makes of a cell."""
    promise, taken, opener, rows, _ = cell
    if (taken, len(rows)) < (fullest[1], len(fullest[3])):
        taken, opener, rows = fullest[1], (), fullest[3]
    return (max(promise, taken), taken, opener, rows, sure)


def restored_from(disks, editions):
    """A disk that was blank, written from others, with these editions."""
    disk = Disk(editions[0])
    for edition in editions[1:]:
        disk.learn(edition)
    wanted = []
    for name in all_names(disks):
        fullest = fullest_cell(disks, name)
        cell = (greatest_promise(disks, name), fullest[1], (), fullest[3], greatest_sure(disks, name))
        wanted.append((name, cell, max([one.pair(name) for one in disks + [disk]])))
    lay_changes(disk, wanted)
    for e in sorted(set([e for one in disks for e in one.books])):
        disk.books[e] = (max([one.book(e)[0] for one in disks]), 0, None)
    return disk


def lay_changes(disk, wanted):
    """Lay onto the disk a copy of those entries that are other ones than there, if there are any."""
    entries = tuple([entry for entry in wanted if entry[1:] != (disk.cell(entry[0]), disk.pair(entry[0]))])
    if entries:
        disk.lay(("copy", entries))


def opened_as(disks, name, lot):
    """Whether the log of a name is open for a lot, whose disks these are."""
    promise, _, _, rows, _ = disks[0].cell(name)
    return all([disk.cell(name)[:4] == (promise, promise, lot, rows) for disk in disks])


def rows_with_key(disks, key):
    """The triples (name, place, row) of the rows of the fullest cells that have a key, rising by name and place."""
    found = []
    for name in all_names(disks):
        for place, row in enumerate(fullest_cell(disks, name)[3]):
            if row[1] == key:
                found.append((name, place, row))
    return found


def uncovered(found):
    """Of the rows told as triples those that no other one of them covers, each as (e, l, place, number, value)."""
    told = {}
    for index, (_, _, row) in enumerate(found):
        for e, l, number, length in row[3]:
            told.setdefault((e, l), []).append((number, length, index))
    # A row that covers itself is not covered by it, so of each name the greatest pairs of two rows are enough.
    greatest = {name: sorted(told[name])[-2:] for name in told}
    shown = []
    for index, (name, place, row) in enumerate(found):
        pair = (row[0], place + 1)
        if not any([rank[:2] >= pair and rank[2] != index for rank in greatest.get(name, [])]):
            shown.append(name + (place, row[0], row[2]))
    return tuple(shown)


def last_pairs(disks, e):
    """For each log of an edition that was taken the greatest pair (taken, how many rows)."""
    return greatest_pairs([{name[1]: pair for name, pair in taken_pairs(disk) if name[0] == e} for disk in disks])


def taken_pairs(disk):
    """The pairs of a name that was taken and its pair (taken, how many rows)."""
    return [(name, (cell[1], len(cell[3]))) for name, cell in disk.told_cells() if cell[1] > 0]
