"""Handlers: they stand around bodies, and answer what these ask by clauses."""

from askfurther.bodies import is_line, line_of
from askfurther.errors import BadHandler
from askfurther.forms import are_operations, are_unlike, in_order, is_index, is_name, is_row, is_text_in, word_of
from askfurther.keepers import are_same, clauses_for, keeper_of_table, stands_of

MOST_STATES = 8
MOST_LINES = 20


class Handler:
    """A handler: what it handles, what it asks further, a start and clauses. It never changes."""

    def __init__(self, handled, further, start, clauses, ends):
        if not are_operations(handled):
            raise BadHandler("handled")
        if not are_operations(further) or are_unlike(handled, further):
            raise BadHandler("further")
        if not is_name(start):
            raise BadHandler("start")
        if not are_clauses(clauses, handled, further):
            raise BadHandler("clauses")
        table = {(state, ("ask", name)): clause_of(clauses[(state, name)]) for state, name in sorted(clauses)}
        if not are_complete(stands_of([start] + states_told(ends), table), handled, table):
            raise BadHandler("clauses")
        if not are_ends(ends, further):
            raise BadHandler("ends")
        for state, word in sorted(ends):
            table[(state, ("end", word))] = clause_of(ends[(state, word)])
        self.keeper = keeper_of_table(in_order(handled), in_order(further), start, table)

    def handled(self):
        """The numbers of answers of the operations that it handles."""
        return dict(self.keeper.counts)

    def further(self):
        """The numbers of answers of the operations that it asks further out."""
        return dict(self.keeper.outside)

    @property
    def start(self):
        """The state in which it is at first."""
        return self.keeper.begin

    def states(self):
        """The sorted list of the states."""
        return list(self.keeper.stands)

    def clauses(self):
        """The clauses by tuples of a state and an operation."""
        return clauses_for(self.keeper, "ask")

    def ends(self):
        """The clauses of ends by tuples of a state and a word."""
        return clauses_for(self.keeper, "end")

    def __getitem__(self, at):
        if not is_pair_of_texts(at) or (at[0], ("ask", at[1])) not in self.keeper.table:
            return None
        return self.keeper.table[(at[0], ("ask", at[1]))]

    def __iter__(self):
        raise TypeError("handlers are not iterated over")

    def __contains__(self, operation):
        return is_text_in(operation, self.keeper.counts)

    def __eq__(self, other):
        return isinstance(other, Handler) and are_same(self.keeper, other.keeper)


def passing():
    """The handler that handles nothing."""
    return Handler({}, {}, "a", {}, {})


def handler_of(keeper):
    """The handler that has these parts, also if they are more than may be passed to Handler."""
    handler = passing()
    handler.keeper = keeper
    return handler


def is_pair_of_texts(thing):
    """Whether it is a tuple of two texts."""
    return isinstance(thing, tuple) and len(thing) == 2 and isinstance(thing[0], str) and isinstance(thing[1], str)


def is_pair_of_names(thing):
    """Whether it is a tuple of two names."""
    return is_pair_of_texts(thing) and is_name(thing[0]) and is_name(thing[1])


def are_clauses(thing, counts, outside):
    """Whether it is a dict from tuples of a state and one of the operations to clauses for these."""
    if not isinstance(thing, dict):
        return False
    for at, rows in thing.items():
        if not is_pair_of_names(at) or at[1] not in counts or not is_clause(rows, outside, counts[at[1]]):
            return False
    return True


def are_ends(thing, outside):
    """Whether it is a dict from tuples of a state and a word to clauses without answers."""
    if not isinstance(thing, dict):
        return False
    return all([is_pair_of_names(at) and is_clause(rows, outside, 0) for at, rows in thing.items()])


def is_clause(rows, outside, many):
    """Whether it is a clause that asks these operations and gives an answer below so many, if any."""
    if not is_row(rows) or not 1 <= len(rows) <= MOST_LINES:
        return False
    return all([is_clause_line(row, outside, len(rows), many) for row in rows])


def is_clause_line(row, outside, size, many):
    """Whether it is a row of a clause with so many rows."""
    word = word_of(row)
    if word == "answer":
        return len(row) == 3 and is_index(row[1], many) and is_name(row[2])
    if word == "finish":
        return len(row) == 2 and is_name(row[1])
    return word in ("ask", "go") and is_line(row, outside, size)


def clause_of(rows):
    """A clause as tuples at every depth."""
    return tuple([line_of(row) for row in rows])


def states_told(ends):
    """The states of those keys of ends that are told rightly, whatever else is wrong there."""
    if not isinstance(ends, dict):
        return []
    return [at[0] for at in ends if is_pair_of_names(at)]


def are_complete(states, counts, table):
    """Whether the states are not too many, and each one has a clause for each operation."""
    if len(states) > MOST_STATES:
        return False
    return all([(state, ("ask", operation)) in table for state in states for operation in counts])
