"""Fusing: a body of a body within a handler, and a handler of two that stand around one another."""

from askfurther.bodies import body_of
from askfurther.forms import in_order, joined
from askfurther.handlers import handler_of
from askfurther.keepers import keeper_of_pool
from askfurther.leasts import merged
from askfurther.machines import mapped
from askfurther.numbering import Numbering
from askfurther.pools import Pool, owners_of, reduced
from askfurther.wholes import whole_of


def handled(handler, body):
    """The body that does what the body does within the handler."""
    whole = whole_of(handler, body)
    counts = without(body.machine.counts, handler.keeper.counts)
    return body_of(merged(in_order({**counts, **handler.keeper.outside}), whole.lines, 0))


def fused(inner, outer):
    """The handler that does what the inner one does within the outer one."""
    inside, around = inner.keeper, outer.keeper
    joined([inside.counts, inside.outside, around.counts, around.outside])
    pair = Pair(inside, around)
    counts = in_order({**inside.counts, **around.counts})
    outside = in_order({**without(inside.outside, around.counts), **around.outside})
    pool = Pool([], pair.lines, pair.begins)
    return handler_of(keeper_of_pool(counts, outside, reduced(pool, owners_of(pool), pair.begins)))


def without(counts, others):
    """The operations that are not among the others."""
    return {operation: many for operation, many in counts.items() if operation not in others}


class Pair:
    """Two keepers, one within the other: the places in their clauses to which they come, and a row for each.

    A place is a tuple of the inner state when a clause was begun, what the body does, the outer state, and the
    row of the clause: of the inner keeper's, if it has one for this, otherwise of the outer keeper's. Where the
    outer one goes through a clause for what that row asks, the row of its own clause stands behind. Couples of
    states are told by their numbers; `begins` tells for each one where its clauses begin.
    """

    def __init__(self, inside, around):
        self.inside = inside
        self.around = around
        self.places = Numbering(False)
        self.lines = []
        self.couples = Numbering(False)
        self.couples.number((inside.begin, around.begin))
        self.begins = []
        deeds = sorted({does: True for state, does in list(inside.table) + list(around.table)})
        while len(self.begins) < len(self.couples.things):
            self.begins.append(begins_at(self, self.couples.things[len(self.begins)], deeds))
            while len(self.lines) < len(self.places.things):
                self.lines.append(line_at(self, self.places.things[len(self.lines)]))


def begins_at(pair, couple, deeds):
    """The rows at which the clauses begin in a couple of states, by what a body does, as far as there are some."""
    inner, outer = couple
    begins = {}
    for does in deeds:
        if (inner, does) in pair.inside.table or (outer, does) in pair.around.table:
            begins[does] = pair.places.number((inner, does, outer, 0))
    return begins


def line_at(pair, place):
    """The row of the one handler for a place, which goes on at the numbers of the next ones."""
    if len(place) == 5:
        return answering_line(pair, place)
    if (place[0], place[1]) in pair.inside.table:
        return inner_line(pair, place)
    return outer_line(pair, place)


def inner_line(pair, place):
    """The row where the inner keeper goes through a clause of its own."""
    inner, does, outer, row = place
    line = pair.inside.table[(inner, does)][row]
    if line[0] == "finish":
        return finishing_line(pair, outer, line)
    if line[0] == "answer":
        return ("answer", line[1], pair.couples.number((line[2], outer)))
    if line[0] == "ask" and line[1] in pair.around.counts:
        return ("go", pair.places.number((inner, does, outer, row, 0)))
    return mapped(line, lambda index: pair.places.number((inner, does, outer, index)))


def finishing_line(pair, outer, line):
    """The row where the inner keeper finishes: no clause of its own comes behind that, as no state is empty."""
    does = ("end", line[1])
    if (outer, does) in pair.around.table:
        return ("go", pair.places.number(("", does, outer, 0)))
    return line


def outer_line(pair, place):
    """The row where the outer keeper goes through a clause for what the inner one lets by."""
    inner, does, outer, row = place
    line = pair.around.table[(outer, does)][row]
    if line[0] == "answer":
        return ("answer", line[1], pair.couples.number((inner, line[2])))
    return mapped(line, lambda index: pair.places.number((inner, does, outer, index)))


def answering_line(pair, place):
    """The row where the outer keeper goes through a clause for what a row of the inner one's clause asks."""
    inner, does, outer, asking, row = place
    asks = pair.inside.table[(inner, does)][asking]
    line = pair.around.table[(outer, ("ask", asks[1]))][row]
    if line[0] == "answer":
        return ("go", pair.places.number((inner, does, line[2], asks[2][line[1]])))
    return mapped(line, lambda index: pair.places.number((inner, does, outer, asking, index)))
