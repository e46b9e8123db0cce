"""Bodies: finite machines that ask operations and go on by the answers."""

from askfurther.errors import BadBody, BadHistory, BadOperations, BadOthers, BadStart, NoRow
from askfurther.forms import are_nexts, are_operations, in_order, is_index, is_name, is_row, is_text_in
from askfurther.forms import joined, word_of
from askfurther.leasts import merged
from askfurther.machines import Machine, are_equal, followed, shows_of

MOST_ROWS = 400
MOST_OTHERS = 8


class Body:
    """A body: operations, rows and a start. It never changes."""

    def __init__(self, operations, rows, *, start=0):
        if not are_operations(operations):
            raise BadOperations()
        lines = lines_read(rows, operations)
        if not is_index(start, len(lines)):
            raise BadStart(start)
        self.machine = Machine(in_order(operations), lines, start)

    def operations(self):
        """The numbers of answers of the operations."""
        return dict(self.machine.counts)

    def rows(self):
        """The list of the rows."""
        return list(self.machine.lines)

    @property
    def start(self):
        """The index of the row at which the body begins."""
        return self.machine.begin

    def asked(self):
        """The sorted list of the operations that some run asks."""
        return list(self.machine.asks)

    def words(self):
        """The sorted list of the words with which some run ends."""
        return list(self.machine.endings)

    def hangs(self):
        """Whether some run hangs."""
        return self.machine.endless

    def then(self, others):
        """The body that goes on, where this one ends with a word of the dict, with the body that stands there."""
        if not are_others(others):
            raise BadOthers()
        machines = {word: body.machine for word, body in others.items()}
        counts = joined([self.machine.counts] + [machine.counts for machine in list(machines.values())])
        lines = followed(self.machine, machines)
        return body_of(merged(counts, lines, self.machine.begin))

    def __len__(self):
        return len(self.machine.lines)

    def __getitem__(self, index):
        if not is_index(index, len(self.machine.lines)):
            raise NoRow(index)
        return self.machine.lines[index]

    def __iter__(self):
        raise TypeError("bodies are not iterated over")

    def __contains__(self, operation):
        return is_text_in(operation, self.machine.asks)

    def __eq__(self, other):
        return isinstance(other, Body) and are_equal(self.machine, other.machine)


def body_of(machine):
    """The body that is this machine, also if it has more rows than may be passed to Body."""
    body = Body({}, (("go", 0),))
    body.machine = machine
    return body


def are_others(thing):
    """Whether it is a dict from at most 8 names to bodies."""
    if not isinstance(thing, dict) or len(thing) > MOST_OTHERS:
        return False
    return all([is_name(word) and isinstance(body, Body) for word, body in thing.items()])


def lines_read(rows, counts):
    """The rows of a body as tuples at every depth."""
    if not is_row(rows) or not 1 <= len(rows) <= MOST_ROWS:
        raise BadBody(-1)
    for index, row in enumerate(rows):
        if not is_line(row, counts, len(rows)):
            raise BadBody(index)
    return [line_of(row) for row in rows]


def is_line(row, counts, many):
    """Whether it is a row of a body with these operations and so many rows."""
    word = word_of(row)
    if word == "ask":
        return len(row) == 3 and is_text_in(row[1], counts) and are_nexts(row[2], row[1], counts, many)
    if word == "end":
        return len(row) == 2 and is_name(row[1])
    return word == "go" and len(row) == 2 and is_index(row[1], many)


def line_of(row):
    """A row of a body as a tuple at every depth."""
    if row[0] == "ask":
        return ("ask", row[1], tuple(row[2]))
    return tuple(row)


def shown(body, history):
    """What the body shows behind the history."""
    machine = body.machine
    if not is_row(history):
        raise BadHistory(-1)
    at = machine.stops[machine.begin]
    for index, told in enumerate(history):
        if not can_come(told, machine.lines[at], machine.counts):
            raise BadHistory(index)
        at = machine.stops[machine.lines[at][2][told[1]]]
    return shows_of(machine.lines[at])


def can_come(told, line, counts):
    """Whether it is a pair of the operation that a row of rest asks and one of its answers."""
    if line[0] != "ask" or not is_row(told) or len(told) != 2:
        return False
    return isinstance(told[0], str) and told[0] == line[1] and is_index(told[1], counts[line[1]])
