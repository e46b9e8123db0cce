"""Trails: histories that begin alike, kept as one, told by numbers and put in order."""


class Trails:
    """Histories by numbers: the empty one is 0, each other one is another one and an element behind it.

    `jumps` has for each one a much shorter beginning of it, so that where two of the same length part is found in
    few steps: those of the same length jump to beginnings of the same length.
    """

    def __init__(self):
        self.numbers = {}
        self.parents = [0]
        self.jumps = [0]
        self.sizes = [0]
        self.lasts = [("", 0)]

    def behind(self, trail, operation, answer):
        """The number of the history with one more element."""
        key = (trail, operation, answer)
        if key not in self.numbers:
            self.numbers[key] = len(self.parents)
            self.parents.append(trail)
            self.jumps.append(jump_from(self, trail))
            self.sizes.append(self.sizes[trail] + 1)
            self.lasts.append((operation, answer))
        return self.numbers[key]


def jump_from(trails, parent):
    """Where a new trail behind this one jumps to: over two jumps of the same width, or else just to this one."""
    jump = trails.jumps[parent]
    further = trails.jumps[jump]
    if trails.sizes[parent] - trails.sizes[jump] == trails.sizes[jump] - trails.sizes[further]:
        return further
    return parent


def is_ahead(trails, one, other):
    """Whether the one history, as long as the other one and unlike it, comes first."""
    while trails.parents[one] != trails.parents[other]:
        steps = trails.jumps if trails.jumps[one] != trails.jumps[other] else trails.parents
        one, other = steps[one], steps[other]
    return trails.lasts[one] < trails.lasts[other]


def history_of(trails, trail):
    """The history with this number, a tuple."""
    history = []
    while trail > 0:
        history.append(trails.lasts[trail])
        trail = trails.parents[trail]
    return tuple(history[::-1])
