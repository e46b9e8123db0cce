"""Leasts: things parted into as few groups as can be, and the least machine."""

from askfurther.machines import Machine, cut, mapped, nexts_of, shows_of, stops_of


MOST_ROUNDS = 8


class Parting:
    """Things, told by numbers, in groups: `owners` has the group of each thing, `members` the things of each group.

    `waiting` are the groups by which others may still have to be split, `waits` tells of each group whether it is
    one of them.
    """

    def __init__(self, owners):
        self.owners = owners
        many = 1 + max(owners, default=-1)
        self.members = [{} for group in range(many)]
        for thing, owner in enumerate(owners):
            self.members[owner][thing] = True
        self.waiting = list(range(many))
        self.waits = [True] * many


def groups_of(marks, nexts):
    """The group of each thing: alike are those with the same mark whose nexts, in order, are alike.

    Most things are parted in few rounds; those that are not, as in long chains, would need one round for each link.
    """
    owners = numbered(marks)
    for turn in range(MOST_ROUNDS):
        finer = numbered([(owners[thing],) + tuple([owners[led] for led in row]) for thing, row in enumerate(nexts)])
        if max(finer, default=0) == max(owners, default=0):
            return owners
        owners = finer
    return groups_in(Parting(owners), sources_of(nexts))


def numbered(marks):
    """For each mark its number, in the order in which unlike ones come."""
    numbers = {}
    return [numbers.setdefault(mark, len(numbers)) for mark in marks]


def groups_in(parting, sources):
    """The group of each thing, when the groups of a parting are split until those that are alike stand together."""
    while parting.waiting:
        group = parting.waiting.pop()
        parting.waits[group] = False
        splitter = list(parting.members[group])
        for led in sources:
            split_all(parting, [source for thing in splitter for source in led[thing]])
    return parting.owners


def sources_of(nexts):
    """For each place among the nexts a list with the things that have the thing there, for each thing."""
    longest = max([len(row) for row in nexts], default=0)
    sources = [[[] for row in nexts] for place in range(longest)]
    for thing, row in enumerate(nexts):
        for place, following in enumerate(row):
            sources[place][following].append(thing)
    return sources


def split_all(parting, things):
    """Parts these things from all others that are in their groups."""
    touched = {}
    for thing in things:
        touched.setdefault(parting.owners[thing], []).append(thing)
    for group, parts in touched.items():
        if len(parts) < len(parting.members[group]):
            split(parting, group, parts)


def split(parting, group, things):
    """Puts these things of a group into a new one.

    If the old one does not wait, all is split by it as a whole: then the smaller one of the two is enough.
    """
    fresh = len(parting.members)
    parting.members.append({thing: True for thing in things})
    for thing in things:
        parting.owners[thing] = fresh
        del parting.members[group][thing]
    smaller = fresh
    if not parting.waits[group] and len(parting.members[group]) < len(things):
        smaller = group
    parting.waits.append(False)
    parting.waits[smaller] = True
    parting.waiting.append(smaller)


def merged(counts, lines, begin):
    """The machine that does the same with the fewest rows, numbered in the order in which they are met."""
    rests = cut(lines, stops_of(lines), begin)
    owners = groups_of([shows_of(line) for line in rests], [nexts_of(line) for line in rests])
    kept = {owner: mapped(line, lambda index: owners[index]) for owner, line in zip(owners, rests)}
    return Machine(counts, cut(kept, list(range(len(kept))), owners[0]), 0)
