"""Tables: what may come of a work, exactly."""

from askfurther.bodies import body_of, can_come
from askfurther.costs import Costs, cost_of, history_to
from askfurther.errors import BadHistory, NoEntry, Recursive, TooLong
from askfurther.forms import is_row, is_text_in, texts_of
from askfurther.leasts import merged
from askfurther.numbering import Numbering
from askfurther.plans import functions_run
from askfurther.points import Points
from askfurther.silences import HANG, come_to, silences_of

LONGEST = 400


def entries(work):
    """The sorted list of the entries with which functions begin to run in some run."""
    return sorted(Points(work.plan).entries.things)


def exits(work, function, stack):
    """The sorted list of the ways in which an entry is left in some run."""
    table = Points(work.plan)
    numbers = table.entries.numbers
    entry = (function, stack_of(stack)) if is_text_in(function, work.plan.blocks) else ()
    if entry not in numbers:
        raise NoEntry()
    return sorted([table.ways.things[way] for way in table.leaving[numbers[entry]]])


def stack_of(thing):
    """The stack that a row of rows tells, None if it is no row; what is no row of texts in it becomes (), no pair."""
    if not is_row(thing):
        return None
    return tuple([texts_of(pair) for pair in thing])


def leaves(work):
    """The operations that the work asks, the words with which it ends, and whether it hangs, in some run."""
    table = Points(work.plan)
    asked = sorted({step[1]: True for step in table.steps if step[0] == "ask"})
    words = sorted({table.ways.things[way][1]: True for way in table.leaving[0]})
    return (asked, words, HANG in silences_of(table))


def shown_by(work, history):
    """What the work shows behind the history."""
    table = Points(work.plan)
    silences = silences_of(table)
    if not is_row(history):
        raise BadHistory(-1)
    frames = []
    told = come_to(table, silences, frames, 0)
    for index, element in enumerate(history):
        if not can_come(element, line_of_told(table, told), work.plan.joint):
            raise BadHistory(index)
        told = come_to(table, silences, frames, table.steps[told[1]][2][element[1]])
    return line_of_told(table, told)[:2]


def line_of_told(table, told):
    """What a work has come to, as a row of rest: ("ask", operation, points), or what it shows."""
    if told[0] == "ask":
        return table.steps[told[1]]
    return told


def least_asks(work, shows):
    """The number of elements of a shortest history behind which the work shows this; None if there is none."""
    costs = Costs(Points(work.plan))
    goal = goal_for(costs, texts_of(shows))
    return None if goal is None else cost_of(costs, goal)


def goal_for(costs, shows):
    """What is to be come to with the fewest asks, so that the work shows this there; None if nothing is."""
    table = costs.table
    goals = []
    if shows == HANG:
        goals = [point for point, told in enumerate(silences_of(table)) if told == HANG]
    elif len(shows) == 2 and shows[0] == "ask":
        goals = [point for point, step in enumerate(table.steps) if step[:2] == shows]
    elif len(shows) == 2 and shows[0] == "end":
        goals = [(0, way) for way in table.leaving[0] if table.ways.things[way][1] == shows[1]]
    return min(goals, key=lambda goal: cost_of(costs, goal), default=None)


def way_out(work, shows):
    """A shortest history behind which the work shows this; None if there is none."""
    costs = Costs(Points(work.plan))
    goal = goal_for(costs, texts_of(shows))
    if goal is None:
        return None
    many = cost_of(costs, goal)
    if many > LONGEST:
        raise TooLong(many)
    return history_to(costs, goal)


def unrolled(work):
    """The body that shows what the work shows behind each history."""
    plan = work.plan
    for name in plan.names:
        called = [row[1] for row in plan.blocks[name] if row[0] == "call"]
        if any([name in functions_run(plan, function, ("call",)) for function in called]):
            raise Recursive(name)
    table = Points(plan)
    silences = silences_of(table)
    found = Numbering(True)
    found.number(stand_at(table, silences, (), 0))
    lines = []
    while len(lines) < len(found.things):
        stand = found.things[len(lines)]
        if stand[0] == "ask":
            step = table.steps[stand[2]]
            stands = [stand_at(table, silences, stand[1], point) for point in step[2]]
            lines.append(("ask", step[1], tuple([found.number(following) for following in stands])))
        else:
            lines.append(("go", len(lines)) if stand == HANG else stand)
    return body_of(merged(plan.joint, lines, 0))


def stand_at(table, silences, frames, point):
    """What a work comes to from a point without an ask: ("ask", frames, point), ("end", word) or ("hang",)."""
    opened = list(frames)
    told = come_to(table, silences, opened, point)
    if told[0] == "ask":
        return ("ask", tuple(opened), told[1])
    return told


def clauses_met(work):
    """The sorted lists of the clauses, and of the clauses of ends, that are begun in some run."""
    asked = {}
    ended = {}
    for entry, stack, row, chain in Points(work.plan).points.things:
        for link in chain:
            if len(link) == 4:
                ended[link[:3]] = True
            else:
                asked[stack[link[0]] + (link[1],)] = True
    return (sorted(asked), sorted(ended))
