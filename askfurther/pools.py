"""Pools: all clauses of a handler as rows in one list, of which those that do the same are told as one.

An "answer" row tells a state by its number there. For each state a dict tells, by what a body does, sorted, the
row at which the clause begins; the state with the number 0 is the start.
"""

from askfurther.forms import name_of
from askfurther.leasts import groups_of
from askfurther.machines import cut, mapped, nexts_of, shows_of, stops_of
from askfurther.numbering import Numbering


def table_of(lines, begins):
    """The least clauses that do the same, by the names of the states, as they are met, and what a body does."""
    stops = stops_of(lines)
    many = len(begins)
    owners = owners_of(lines, stops, begins)
    kept = {}
    for place, line in enumerate(lines):
        if stops[place] == place:
            kept[owners[many + place]] = merged_line(line, owners, lambda index: owners[many + stops[index]])
    states = dict(zip(owners, begins))
    found = Numbering(False)
    found.number(owners[0])
    places = list(range(len(owners)))
    table = {}
    done = 0
    while done < len(found.things):
        own = states[found.things[done]]
        for does, begin in own.items():
            clause = cut(kept, places, owners[many + stops[begin]])
            table[(name_of(done), does)] = tuple([named_line(line, found) for line in clause])
        done += 1
    return table


def owners_of(lines, stops, begins):
    """The groups of the states, then those of the rows: alike are those that do the same behind all that comes."""
    many = len(begins)
    marks = [("state", tuple(own)) for own in begins]
    nexts = [tuple([many + stops[begin] for begin in own.values()]) for own in begins]
    for place, line in enumerate(lines):
        if stops[place] != place:
            marks.append(("passed",))
            nexts.append(())
        elif line[0] == "answer":
            marks.append(("answer", line[1]))
            nexts.append((line[2],))
        else:
            marks.append(shows_of(line))
            nexts.append(tuple([many + stops[index] for index in nexts_of(line)]))
    return groups_of(marks, nexts)


def merged_line(line, owners, place_of):
    """The row that tells the groups of rows and states in the place of these."""
    if line[0] == "answer":
        return ("answer", line[1], owners[line[2]])
    return mapped(line, place_of)


def named_line(line, found):
    """The row that tells the name of a state in the place of its group."""
    if line[0] == "answer":
        return ("answer", line[1], name_of(found.number(line[2])))
    return line
