"""Section 10 told once more, step by step, to compare the program with."""

import heapq

from askfurther.handlers import Handler


class Side:
    """A handler, gone through row by row; `counts` are the numbers of answers of all operations in question."""

    def __init__(self, handler, counts):
        self.start, self.counts = handler.start, counts
        self.handled, self.clauses, self.ends = handler.handled(), handler.clauses(), handler.ends()

    def clause(self, state, does):
        """The clause for what a body does, also if it is let by."""
        word, name = does
        if word == "ask" and name in self.handled:
            return self.clauses[state, name]
        if word == "ask":
            many = self.counts[name]
            return [("ask", name, tuple(range(1, many + 1)))] + [("answer", k, state) for k in range(many)]
        return self.ends.get((state, name), (("finish", name),))

    def rest(self, state, does, at):
        """The row at which it rests from this one on, and what it shows there; a hang is told by the row 0."""
        rows = self.clause(state, does)
        seen = set()
        while rows[at][0] == "go":
            if at in seen:
                return 0, ("hang",)
            seen.add(at)
            at = rows[at][1]
        return at, rows[at][:2]


def counts_of(*handlers):
    return {name: many for handler in handlers for table in (handler.handled(), handler.further()) for name, many in table.items()}


def deeds_of(*handlers):
    asks = {("ask", name) for handler in handlers for name in handler.handled()}
    return sorted(asks | {("end", word) for handler in handlers for _, word in handler.ends()})


def first_apart(one, other, inward, starts=None, prune=True, most=None):
    """What parts two handlers first, as parted_handlers (or within_handlers) tells it.

    What can come with both is gone through in the order of section 10; with `prune` each pair of places but once,
    without it all asks and histories with at most so many elements of both.
    """
    counts = counts_of(one, other)
    sides = Side(one, counts), Side(other, counts)
    deeds = deeds_of(one, other)
    waiting = [(0, 0, (), (), (), starts or (one.start, other.start), None)]
    known = set()
    while waiting:
        many, length, asks, does, history, states, rows = heapq.heappop(waiting)
        if prune:
            if (does, states, rows) in known:
                continue
            known.add((does, states, rows))
        elif many + length > most:
            continue
        if does == ():
            for deed in deeds:
                begins = tuple(side.rest(state, deed, 0) for side, state in zip(sides, states))
                heapq.heappush(waiting, (many, length, asks, deed, history, states, begins))
            continue
        (_, first), (_, second) = rows
        if first != second and not (inward and first == ("hang",)):
            return (asks, does, history, first, second)
        if first == second and first[0] in ("ask", "answer"):
            told = [side.clause(state, does)[at] for side, state, (at, _) in zip(sides, states, rows)]
            if first[0] == "answer":
                after = tuple(row[2] for row in told)
                heapq.heappush(waiting, (many + 1, length, asks + ((does[1], first[1]),), (), history, after, None))
            else:
                for k in range(counts[first[1]]):
                    behind = tuple(side.rest(state, does, row[2][k]) for side, state, row in zip(sides, states, told))
                    heapq.heappush(waiting, (many, length + 1, asks, does, history + ((first[1], k),), states, behind))
    return None


def behind_clause(one, other, states, does):
    """Whether two clauses show unlike things behind some history, and all pairs of states behind their answers."""
    counts = counts_of(one, other)
    sides = Side(one, counts), Side(other, counts)
    waiting = [(0, 0)]
    unlike, found, known = False, set(), set()
    while waiting:
        rows = tuple(side.rest(state, does, at) for side, state, at in zip(sides, states, waiting.pop()))
        if rows in known:
            continue
        known.add(rows)
        told = [side.clause(state, does)[at] for side, state, (at, _) in zip(sides, states, rows)]
        if rows[0][1] != rows[1][1]:
            unlike = True
        elif rows[0][1][0] == "answer":
            found.add((told[0][2], told[1][2]))
        elif rows[0][1][0] == "ask":
            waiting += zip(told[0][2], told[1][2])
    return unlike, found


def all_state_pairs(one, other):
    """The pairs of states in which two handlers that are alike can be behind the same."""
    found = [(one.start, other.start)]
    for states in found:
        for does in deeds_of(one, other):
            found += sorted(behind_clause(one, other, states, does)[1] - set(found))
    return sorted(found)


def pairs_fault(one, other, row):
    """Why a row of pairs of states is not closed, as section 10 tells it."""
    there = [tuple(pair) for pair in row]
    if (one.start, other.start) not in there:
        return ("begin",)
    for k, states in enumerate(there):
        for does in deeds_of(one, other):
            unlike, found = behind_clause(one, other, states, does)
            if unlike:
                return ("shows", k, does)
            if found - set(there):
                return ("step", k, does, min(found - set(there)))
    return None


def met_states(handler):
    """The states in which a handler can be."""
    found = [handler.start]
    for state in found:
        for does in deeds_of(handler):
            found += sorted({pair[0] for pair in behind_clause(handler, handler, (state, state), does)[1]} - set(found))
    return found


def started(handler, state):
    """The handler with another start."""
    return Handler(handler.handled(), handler.further(), state, handler.clauses(), handler.ends())


def alike_states(handler, other, states):
    return first_apart(handler, other, False, states) is None
