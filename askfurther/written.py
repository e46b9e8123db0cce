"""Bodies that are written as blocks of statements."""

from askfurther.bodies import body_of
from askfurther.errors import BadOperations, BadSizes
from askfurther.forms import are_counts, are_operations, in_order
from askfurther.leasts import merged
from askfurther.numbering import Numbering
from askfurther.programs import Program, loop_around, place_behind, place_inside

MOST_VARIABLES = 6
MOST_SIZE = 6


def written(operations, sizes, block):
    """The body that does what the block says."""
    if not are_operations(operations):
        raise BadOperations()
    if not are_counts(sizes, MOST_VARIABLES, 1, MOST_SIZE):
        raise BadSizes()
    counts = in_order(operations)
    program = Program(counts, sizes, block)
    return body_of(merged(counts, lines_of(program), 0))


def lines_of(program):
    """A row of a body for each configuration that can come, the first one ahead.

    A configuration is a tuple of a place and what the variables, sorted, hold there.
    """
    found = Numbering(True)
    first = (0,) if (0,) in program.statements else ()
    found.number(configuration(first, (0,) * len(program.variables)))
    lines = []
    while len(lines) < len(found.things):
        place, held = found.things[len(lines)]
        lines.append(line_at(program, place, held, found))
    return lines


def configuration(place, held):
    """What is behind the last statement is one configuration, whatever the variables hold."""
    if place == ():
        return ((), ())
    return (place, held)


def line_at(program, place, held, found):
    """The row of a body that does one step from a configuration, and goes on at the numbers of the next ones."""
    if place == ():
        return ("end", "done")
    statement = program.statements[place]
    if statement[0] == "end":
        return ("end", statement[1])
    if statement[0] == "ask":
        behind = place_behind(program, place)
        answered = [with_answer(program, held, statement[1], k) for k in range(program.counts[statement[2]])]
        return ("ask", statement[2], tuple([found.number(configuration(behind, now)) for now in answered]))
    reached = configuration(place_reached(program, place, held), held_then(program, statement, held))
    return ("go", found.number(reached))


def place_reached(program, place, held):
    """Where the body stands behind a step that asks nothing."""
    statement = program.statements[place]
    word = statement[0]
    if word == "when":
        return place_inside(program, place, 0 if value(program, held, statement[1]) == statement[2] else 1)
    if word == "same":
        alike = value(program, held, statement[1]) == value(program, held, statement[2])
        return place_inside(program, place, 0 if alike else 1)
    if word == "loop":
        return place_inside(program, place, 0)
    if word == "again":
        return loop_around(program, place)
    if word == "leave":
        return place_behind(program, loop_around(program, place))
    return place_behind(program, place)


def held_then(program, statement, held):
    """What the variables hold behind a step that asks nothing."""
    word = statement[0]
    if word == "set":
        return with_value(program, held, statement[1], statement[2])
    if word == "copy":
        return with_value(program, held, statement[1], value(program, held, statement[2]))
    if word == "turn":
        turned = (value(program, held, statement[1]) + 1) % program.sizes[statement[1]]
        return with_value(program, held, statement[1], turned)
    return held


def with_answer(program, held, name, answer):
    """What the variables hold behind an answer that the named one holds, or none of them."""
    if name is None:
        return held
    return with_value(program, held, name, answer)


def value(program, held, name):
    """What a variable holds."""
    return held[program.variables.index(name)]


def with_value(program, held, name, worth):
    """The values that are held, but with this one for the named variable."""
    at = program.variables.index(name)
    return held[:at] + (worth,) + held[at + 1:]
