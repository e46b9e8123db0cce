"""Silences: what a work comes to from each point without an ask.

It is one of ("ask", point): something is asked from without at this point of the same activation; ("open", point): it
is asked while the function that this point runs is open; ("leave", way): the activation is left; ("hang",).
"""

HANG = ("hang",)


def silences_of(table):
    """For each point what comes of it without an ask. Each one is found but once, however many steps there are."""
    silences = [()] * len(table.steps)
    begun = [False] * len(table.steps)
    for first in range(len(table.steps)):
        waiting = [first]
        while waiting:
            point = waiting[-1]
            begun[point] = True
            needed = point_needed(table, silences, point)
            if needed < 0:
                waiting.pop()
            elif begun[needed]:
                # What comes back to where it was without an ask never asks again.
                silences[point] = HANG
            else:
                waiting.append(needed)
    return silences


def point_needed(table, silences, point):
    """The point whose silence must be found ahead of this one's, -1 if there is none: then it is known behind."""
    step = table.steps[point]
    if silences[point] != ():
        return -1
    if step[0] == "run":
        first = table.firsts[step[1]]
        if silences[first] == ():
            return first
        if silences[first] == HANG:
            silences[point] = HANG
            return -1
        if silences[first][0] != "leave":
            silences[point] = ("open", point)
            return -1
        step = table.backs[(point, silences[first][1])]
    if step[0] == "go":
        if silences[step[1]] == ():
            return step[1]
        silences[point] = silences[step[1]]
        return -1
    silences[point] = ("leave", step[1]) if step[0] == "leave" else ("ask", point)
    return -1


def come_to(table, silences, frames, point):
    """What a work comes to from a point without an ask: ("ask", point), ("end", word) or ("hang",).

    `frames` are the points of the activations around it, from the outermost one on; they are changed to those that
    are open then.
    """
    told = silences[point]
    while told[0] in ("open", "leave"):
        if told[0] == "open":
            frames.append(told[1])
            told = silences[table.firsts[table.steps[told[1]][1]]]
        elif not frames:
            return ("end", table.ways.things[told[1]][1])
        else:
            back = table.backs[(frames.pop(), told[1])]
            told = silences[back[1]] if back[0] == "go" else back
    return told
