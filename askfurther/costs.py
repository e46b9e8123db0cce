"""Costs: how few asks lead to each point of a work, exactly, however many they are."""

from askfurther.heaps import Heap
from askfurther.points import entry_of


class Costs:
    """The least numbers of asks, from the beginning of an activation on, that lead to goals.

    A goal is a point, or a tuple (entry, way) of an entry and a way in which it is left. `costs` has the number for
    each goal, `origins` how the last step of a shortest way comes to it: ("begin",), ("go", point),
    ("ask", point, answer), or ("back", point, goal) behind the activation that this point runs. `depths` and `outer`
    have for each entry the number of asks from the start of the work on, and the point that runs it, -1 for the first
    entry.
    """

    def __init__(self, table):
        self.table = table
        self.costs = {}
        self.origins = {}
        self.waiting = Heap()
        self.runners = [[] for first in table.firsts]
        self.left = [[] for first in table.firsts]
        for first in table.firsts:
            self.waiting.put(0, first, ("begin",))
        while self.waiting.things:
            cost, goal, origin = self.waiting.take()
            if goal not in self.costs:
                self.costs[goal] = cost
                self.origins[goal] = origin
                reach_on(self, goal)
        self.depths = {}
        self.outer = {}
        go_in(self)


def reach_on(costs, goal):
    """Lets the goals wait that are next behind one whose number is known."""
    if isinstance(goal, tuple):
        costs.left[goal[0]].append(goal)
        for point in costs.runners[goal[0]]:
            reach_back(costs, point, goal)
        return
    step = costs.table.steps[goal]
    cost = costs.costs[goal]
    if step[0] == "go":
        costs.waiting.put(cost, step[1], ("go", goal))
    elif step[0] == "leave":
        costs.waiting.put(cost, (entry_of(costs.table, goal), step[1]), ("go", goal))
    elif step[0] == "ask":
        for answer, point in enumerate(step[2]):
            costs.waiting.put(cost + 1, point, ("ask", goal, answer))
    else:
        costs.runners[step[1]].append(goal)
        for inner in costs.left[step[1]]:
            reach_back(costs, goal, inner)


def reach_back(costs, point, inner):
    """Lets the goal wait that comes when what a point runs is left, if both numbers are known."""
    back = costs.table.backs[(point, inner[1])]
    goal = back[1] if back[0] == "go" else (entry_of(costs.table, point), back[1])
    costs.waiting.put(costs.costs[point] + costs.costs[inner], goal, ("back", point, inner))


def go_in(costs):
    """Finds the number of asks that lead from the start of the work to the beginning of each entry."""
    inner = [[] for first in costs.table.firsts]
    for point, step in enumerate(costs.table.steps):
        if step[0] == "run":
            inner[entry_of(costs.table, point)].append((point, step[1]))
    waiting = Heap()
    waiting.put(0, 0, -1)
    while waiting.things:
        cost, entry, outer = waiting.take()
        if entry not in costs.depths:
            costs.depths[entry] = cost
            costs.outer[entry] = outer
            for point, run in inner[entry]:
                waiting.put(cost + costs.costs[point], run, point)


def cost_of(costs, goal):
    """The number of asks that lead from the start of the work to a goal."""
    entry = goal[0] if isinstance(goal, tuple) else entry_of(costs.table, goal)
    return costs.depths[entry] + costs.costs[goal]


def history_to(costs, goal):
    """A shortest history that leads from the start of the work to a goal; it is told from its end on."""
    waiting = [goal]
    entry = goal[0] if isinstance(goal, tuple) else entry_of(costs.table, goal)
    while costs.outer[entry] >= 0:
        waiting.append(costs.outer[entry])
        entry = entry_of(costs.table, waiting[-1])
    waiting.reverse()
    history = []
    while waiting:
        at = waiting.pop()
        while costs.origins[at] != ("begin",):
            origin = costs.origins[at]
            at = origin[1]
            if origin[0] == "ask":
                history.append((costs.table.steps[at][1], origin[2]))
            if origin[0] == "back" and costs.costs[origin[2]] > 0:
                waiting.append(at)
                at = origin[2]
    return tuple(history[::-1])
