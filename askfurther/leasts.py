"""Leasts: things parted into as few groups as can be, and the least machine."""

from askfurther.machines import Machine, cut, mapped, nexts_of, shows_of, stops_of


class Parting:
    """Things, told by numbers, in groups: `owners` has the group of each thing, `members` the things of each group.

    `waiting` are the groups by which others may still have to be split, `waits` tells of each group whether it is
    one of them.
    """

    def __init__(self, marks):
        numbers = {}
        self.owners = [numbers.setdefault(mark, len(numbers)) for mark in marks]
        self.members = [{} for group in range(len(numbers))]
        for thing, owner in enumerate(self.owners):
            self.members[owner][thing] = True
        self.waiting = list(range(len(numbers)))
        self.waits = [True] * len(numbers)


def groups_of(marks, nexts):
    """The group of each thing: alike are those with the same mark whose nexts, in order, are alike."""
    parting = Parting(marks)
    sources = sources_of(nexts)
    while parting.waiting:
        group = parting.waiting.pop()
        parting.waits[group] = False
        splitter = list(parting.members[group])
        for led in sources:
            split_all(parting, [source for thing in splitter for source in led[thing]])
    return parting.owners


def sources_of(nexts):
    """For each place among the nexts a list with the things that have the thing there, for each thing."""
    longest = max([len(row) for row in nexts], default=0)
    sources = [[[] for row in nexts] for place in range(longest)]
    for thing, row in enumerate(nexts):
        for place, following in enumerate(row):
            sources[place][following].append(thing)
    return sources


def split_all(parting, things):
    """Parts these things from all others that are in their groups."""
    touched = {}
    for thing in things:
        touched.setdefault(parting.owners[thing], []).append(thing)
    for group, parts in touched.items():
        if len(parts) < len(parting.members[group]):
            split(parting, group, parts)


def split(parting, group, things):
    """Puts these things of a group into a new one.

    If the old one does not wait, all is split by it as a whole: then the smaller one of the two is enough.
    """
    fresh = len(parting.members)
    parting.members.append({thing: True for thing in things})
    for thing in things:
        parting.owners[thing] = fresh
        del parting.members[group][thing]
    smaller = fresh
    if not parting.waits[group] and len(parting.members[group]) < len(things):
        smaller = group
    parting.waits.append(False)
    parting.waits[smaller] = True
    parting.waiting.append(smaller)


def merged(counts, lines, begin):
    """The machine that does the same with the fewest rows, numbered in the order in which they are met."""
    rests = cut(lines, stops_of(lines), begin)
    owners = groups_of([shows_of(line) for line in rests], [nexts_of(line) for line in rests])
    kept = {owner: mapped(line, lambda index: owners[index]) for owner, line in zip(owners, rests)}
    return Machine(counts, cut(kept, list(range(len(kept))), owners[0]), 0)
