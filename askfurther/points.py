"""Points: all places at which the functions of a work can stand, and what comes next at each one.

A point is a tuple (number of the entry, stack, row, chain), as section 13 tells it. What comes next there is one of

- ("go", point): this point;
- ("ask", operation, points): the work asks the operation, and comes to points[k] with the answer k;
- ("run", entry): a function begins to run with the entry of this number;
- ("leave", way): what was begun with the point's entry is left in the way of this number: a tuple
  ("end", word, stack) or ("finish", n, word, stack).
"""

from askfurther.numbering import Numbering
from askfurther.plans import MAIN


class Points:
    """The points of a plan, the entries and the ways in which these are left, by their numbers.

    `firsts` has the first point of each entry, `runners` the points that run it, `leaving` the ways in which it is
    left. `steps` has what comes next at each point; `backs` has it for each point that runs an entry and each way in
    which this is left.
    """

    def __init__(self, plan):
        self.plan = plan
        self.points = Numbering(True)
        self.entries = Numbering(False)
        self.ways = Numbering(False)
        self.firsts = []
        self.runners = []
        self.leaving = []
        self.steps = []
        self.backs = {}
        entry_for(self, MAIN, ())
        while len(self.steps) < len(self.points.things):
            point = len(self.steps)
            step = step_at(self, self.points.things[point])
            self.steps.append(step)
            if step[0] == "run":
                self.runners[step[1]].append(point)
                leave_all(self, [(point, way) for way in self.leaving[step[1]]])
            if step[0] == "leave":
                leave_all(self, left_by(self, entry_of(self, point), step[1]))


def entry_for(table, function, stack):
    """The number of an entry; its first point is taken up with it."""
    entry = table.entries.number((function, stack))
    if entry == len(table.firsts):
        table.firsts.append(point_for(table, entry, stack, 0, ()))
        table.runners.append([])
        table.leaving.append({})
    return entry


def point_for(table, entry, stack, row, chain):
    """The number of a point."""
    return table.points.number((entry, stack, row, chain))


def entry_of(table, point):
    """The number of the entry of a point."""
    return table.points.things[point][0]


def left_by(table, entry, way):
    """The pairs of points that run an entry and the way, if it was not left in this way before."""
    if way in table.leaving[entry]:
        return []
    table.leaving[entry][way] = True
    return [(point, way) for point in table.runners[entry]]


def leave_all(table, pairs):
    """Goes back to points that run entries from the ways in which these are left, as far out as it goes."""
    waiting = list(pairs)
    while waiting:
        point, way = waiting.pop()
        back = back_at(table, table.points.things[point], table.ways.things[way])
        table.backs[(point, way)] = back
        if back[0] == "leave":
            waiting.extend(left_by(table, entry_of(table, point), back[1]))


def line_at(table, point):
    """The row of the function at which a point stands."""
    function = table.entries.things[point[0]][0]
    return table.plan.blocks[function][point[2]]


def clause_at(table, stack, link):
    """The clause of which a link of a chain tells a row."""
    if len(link) == 4:
        return table.plan.keepers[link[0]].table[(link[1], ("end", link[2]))]
    name, state = stack[link[0]]
    return table.plan.keepers[name].table[(state, ("ask", link[1]))]


def step_at(table, point):
    """What comes next at a point."""
    entry, stack, row, chain = point
    if chain != ():
        return clause_step(table, point)
    line = line_at(table, point)
    if line[0] == "end":
        return ("leave", table.ways.number(("end", line[1], stack)))
    if line[0] == "go":
        return ("go", point_for(table, entry, stack, line[1], ()))
    if line[0] == "call":
        return ("run", entry_for(table, line[1], stack))
    if line[0] == "handle":
        return ("run", entry_for(table, line[2], stack + ((line[1], table.plan.keepers[line[1]].begin),)))
    return ask_step(table, point, line[1], len(stack))


def clause_step(table, point):
    """What comes next where a clause is gone through."""
    entry, stack, row, chain = point
    link = chain[-1]
    line = clause_at(table, stack, link)[link[-1]]
    if line[0] == "go":
        return ("go", point_for(table, entry, stack, row, chain[:-1] + (moved(link, line[1]),)))
    if line[0] == "answer":
        number = link[0]
        after = stack[:number] + ((stack[number][0], line[2]),) + stack[number + 1:]
        return ("go", point_behind(table, (entry, after, row, chain[:-1]), line[1]))
    if line[0] == "ask":
        return ask_step(table, point, line[1], len(stack) if len(link) == 4 else link[0])
    if len(link) == 4:
        return ended_step(table, entry, stack, row, line[1])
    return ("leave", table.ways.number(("finish", link[0], line[1], stack[:link[0]])))


def moved(link, index):
    """The link of a chain, standing at another row of its clause."""
    return link[:-1] + (index,)


def ask_step(table, point, operation, around):
    """What comes next where an operation is asked with so many handlers around: the innermost one handles it."""
    entry, stack, row, chain = point
    for number in range(around - 1, -1, -1):
        if operation in table.plan.keepers[stack[number][0]].counts:
            return ("go", point_for(table, entry, stack, row, chain + ((number, operation, 0),)))
    many = table.plan.joint[operation]
    return ("ask", operation, tuple([point_behind(table, point, answer) for answer in range(many)]))


def point_behind(table, point, answer):
    """The number of the point behind an answer to what is asked at this one."""
    entry, stack, row, chain = point
    if chain == ():
        return point_for(table, entry, stack, line_at(table, point)[2][answer], ())
    line = clause_at(table, stack, chain[-1])[chain[-1][-1]]
    return point_for(table, entry, stack, row, chain[:-1] + (moved(chain[-1], line[2][answer]),))


def ended_step(table, entry, stack, row, word):
    """What comes next when the "call" or "handle" row has ended with a word."""
    nexts = dict(table.plan.blocks[table.entries.things[entry][0]][row][-1])
    if word in nexts:
        return ("go", point_for(table, entry, stack, nexts[word], ()))
    return ("leave", table.ways.number(("end", word, stack)))


def back_at(table, point, way):
    """What comes next at a point that runs a function, when this is left in some way."""
    entry, stack, row, chain = point
    after = way[-1]
    if way[0] == "finish":
        # Only a handler that this very row has put up stands just behind the point's own stack.
        if way[1] == len(stack):
            return ended_step(table, entry, after, row, way[2])
        return ("leave", table.ways.number(way))
    if line_at(table, point)[0] == "handle":
        name, state = after[-1]
        after = after[:-1]
        if (state, ("end", way[1])) in table.plan.keepers[name].table:
            return ("go", point_for(table, entry, after, row, ((name, state, way[1], 0),)))
    return ended_step(table, entry, after, row, way[1])
