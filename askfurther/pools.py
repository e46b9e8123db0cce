"""Pools: all clauses of a handler as rows in one list, of which those that do the same may be told as one."""

from askfurther.forms import name_of
from askfurther.leasts import groups_of
from askfurther.machines import cut, mapped, nexts_of, shows_of, stops_of
from askfurther.numbering import Numbering


class Pool:
    """The names of states, rows, and where the clauses begin; the state with the number 0 is the start.

    An "answer" row tells a state by its number. `begins` has for each state a dict that tells, by what a body does,
    sorted, the row at which the clause begins; several clauses may share their rows. `stops` has for each row the
    one at which it rests.
    """

    def __init__(self, names, lines, begins):
        self.names = names
        self.lines = lines
        self.begins = begins
        self.stops = stops_of(lines)


def pool_of(begin, stands, table):
    """The pool of clauses that are told by tuples of a state and what a body does."""
    names = [begin] + [state for state in stands if state != begin]
    numbers = {name: number for number, name in enumerate(names)}
    lines = []
    begins = [{} for name in names]
    for state, does in sorted(table):
        shift = len(lines)
        begins[numbers[state]][does] = shift
        lines.extend([shifted(line, shift, numbers) for line in table[(state, does)]])
    return Pool(names, lines, begins)


def shifted(line, shift, numbers):
    """The row of a clause where it stands behind so many others, telling a state by its number."""
    if line[0] == "answer":
        return ("answer", line[1], numbers[line[2]])
    return mapped(line, lambda index: index + shift)


def table_of(pool):
    """The clauses of a pool by tuples of a state and what a body does."""
    table = {}
    for name, own in zip(pool.names, pool.begins):
        for does, begin in own.items():
            clause = cut(pool.lines, pool.stops, begin)
            table[(name, does)] = tuple([named_line(line, pool.names) for line in clause])
    return table


def named_line(line, names):
    """The row that tells a state by its name."""
    if line[0] == "answer":
        return ("answer", line[1], names[line[2]])
    return line


def owners_of(pool):
    """The groups of the states, then those of the rows: alike are those that do the same behind all that comes."""
    many = len(pool.begins)
    marks = [("state", tuple(own)) for own in pool.begins]
    nexts = [tuple([many + pool.stops[begin] for begin in own.values()]) for own in pool.begins]
    for place, line in enumerate(pool.lines):
        if pool.stops[place] != place:
            marks.append(("passed",))
            nexts.append(())
        elif line[0] == "answer":
            marks.append(("answer", line[1]))
            nexts.append((line[2],))
        else:
            marks.append(shows_of(line))
            nexts.append(tuple([many + pool.stops[index] for index in nexts_of(line)]))
    return groups_of(marks, nexts)


class Reducing:
    """A pool whose states and rows are told by their groups, numbered in the order in which they are met."""

    def __init__(self, pool, owners):
        self.pool = pool
        self.owners = owners
        self.members = {owner: thing for thing, owner in enumerate(owners)}
        self.met = Numbering(False)
        self.met.number(owners[0])
        self.places = Numbering(False)
        self.lines = []


def reduced(pool, owners, begins):
    """The pool of what is met from the start on by these clauses; the states and rows of a group are told as one."""
    reducing = Reducing(pool, owners)
    told = []
    while len(told) < len(reducing.met.things):
        own = begins[reducing.members[reducing.met.things[len(told)]]]
        told.append({})
        for does, begin in own.items():
            told[-1][does] = place_in(reducing, begin)
            take_lines(reducing)
    return Pool([name_of(number) for number in range(len(told))], reducing.lines, told)


def place_in(reducing, index):
    """The number of the group of the row at which this one rests."""
    return reducing.places.number(reducing.owners[len(reducing.pool.begins) + reducing.pool.stops[index]])


def take_lines(reducing):
    """Takes up all rows that can be come to from those that are numbered, breadth first."""
    while len(reducing.lines) < len(reducing.places.things):
        thing = reducing.members[reducing.places.things[len(reducing.lines)]]
        line = reducing.pool.lines[thing - len(reducing.pool.begins)]
        if line[0] == "answer":
            line = ("answer", line[1], reducing.met.number(reducing.owners[line[2]]))
        reducing.lines.append(mapped(line, lambda index: place_in(reducing, index)))
