"""Wholes: bodies within handlers, gone through configuration by configuration."""

from askfurther.forms import joined
from askfurther.machines import mapped
from askfurther.numbering import Numbering


class Whole:
    """A machine within a keeper: its configurations in the order in which they are met, and a row for each.

    A configuration is a tuple (row, state) at which the body stands, or (row, state, row of the clause) at
    which the handler does.
    """

    def __init__(self, keeper, machine):
        self.keeper = keeper
        self.machine = machine
        self.found = Numbering(True)
        self.found.number((machine.begin, keeper.begin))
        self.lines = []
        while len(self.lines) < len(self.found.things):
            self.lines.append(line_in(self, self.found.things[len(self.lines)]))


def whole_of(handler, body):
    """The body within the handler, if their operations go together."""
    joined([body.machine.counts, handler.keeper.counts, handler.keeper.outside])
    return Whole(handler.keeper, body.machine)


def line_in(whole, at):
    """The row of the whole for a configuration, which goes on at the numbers of the next ones."""
    if len(at) == 3:
        return clause_line(whole, at)
    row, state = at
    line = whole.machine.lines[row]
    if (state, line[:2]) in whole.keeper.table:
        return ("go", whole.found.number((row, state, 0)))
    return mapped(line, lambda index: whole.found.number((index, state)))


def clause_line(whole, at):
    """The row of the whole where the handler stands at a row of a clause for what the body does."""
    row, state, place = at
    line = whole.machine.lines[row]
    step = whole.keeper.table[(state, line[:2])][place]
    if step[0] == "answer":
        return ("go", whole.found.number((line[2][step[1]], step[2])))
    if step[0] == "finish":
        return ("end", step[1])
    return mapped(step, lambda index: whole.found.number((row, state, index)))
