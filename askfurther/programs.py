"""Programs: the statements of a block, known to be right, each at its place."""

from askfurther.errors import BadProgram
from askfurther.forms import is_index, is_name, is_row, is_text_in, word_of

MOST_STATEMENTS = 200
MOST_BLOCKS = 6
LENGTHS = {
    "ask": 3, "set": 3, "copy": 3, "turn": 2, "when": 5, "same": 5, "loop": 2, "leave": 1, "again": 1, "end": 2,
}
FIRST_BLOCK = {"when": 3, "same": 3, "loop": 1}


class Program:
    """Operations, variables with their sizes, and the statements of a block by their places.

    The place () stands for what is behind the last statement of all.
    """

    def __init__(self, counts, sizes, block):
        self.counts = counts
        self.sizes = sizes
        self.variables = sorted(sizes)
        self.statements = {}
        if not is_row(block):
            raise BadProgram(())
        read_block(self, block, ())


def read_block(program, block, place):
    """Takes the statements of a block into the program; its own place is that of a statement and a block number."""
    for index, statement in enumerate(block):
        read_statement(program, statement, place + (index,))


def read_statement(program, statement, place):
    """Takes a statement into the program, then what stands in its blocks."""
    if len(program.statements) == MOST_STATEMENTS or not is_statement(program, statement, place):
        raise BadProgram(place)
    program.statements[place] = statement
    for number, block in enumerate(blocks_of(statement)):
        read_block(program, block, place + (number,))


def blocks_of(statement):
    """The blocks of a statement, by their numbers."""
    if statement[0] in FIRST_BLOCK:
        return statement[FIRST_BLOCK[statement[0]]:]
    return ()


def is_statement(program, statement, place):
    """Whether it is right at this place. A place has two parts more for each block around it."""
    word = word_of(statement)
    if word not in LENGTHS or len(statement) != LENGTHS[word] or len(place) // 2 > MOST_BLOCKS:
        return False
    if word in ("leave", "again"):
        return loop_around(program, place) != ()
    fits = FITS[word]
    return fits(program, statement)


def is_variable(program, thing):
    """Whether it is the name of a variable."""
    return is_text_in(thing, program.sizes)


def can_hold(program, thing, many):
    """Whether it is a variable that can hold all the integers from 0 to below many."""
    return is_variable(program, thing) and program.sizes[thing] >= many


def fits_ask(program, statement):
    """Whether the operation is one, and its answers can be held, if they are used."""
    kept, operation = statement[1:]
    if not is_text_in(operation, program.counts):
        return False
    return kept is None or can_hold(program, kept, program.counts[operation])


def fits_set(program, statement):
    """Whether the variable can hold the integer."""
    return is_variable(program, statement[1]) and is_index(statement[2], program.sizes[statement[1]])


def fits_copy(program, statement):
    """Whether the first variable can hold what the second one may hold."""
    return is_variable(program, statement[2]) and can_hold(program, statement[1], program.sizes[statement[2]])


def fits_turn(program, statement):
    """Whether there is a variable to be turned."""
    return is_variable(program, statement[1])


def fits_when(program, statement):
    """Whether the variable can hold the integer, and both blocks are rows."""
    return fits_set(program, statement) and fits_blocks(program, statement)


def fits_same(program, statement):
    """Whether there are two variables, and both blocks are rows."""
    return is_variable(program, statement[1]) and is_variable(program, statement[2]) and fits_blocks(program, statement)


def fits_blocks(program, statement):
    """Whether all the blocks of the statement are rows."""
    return all([is_row(block) for block in blocks_of(statement)])


def fits_end(program, statement):
    """Whether there is a word to end with."""
    return is_name(statement[1])


FITS = {
    "ask": fits_ask,
    "set": fits_set,
    "copy": fits_copy,
    "turn": fits_turn,
    "when": fits_when,
    "same": fits_same,
    "loop": fits_blocks,
    "end": fits_end,
}


def is_loop(program, place):
    """Whether the statement at a place, which may be (), is a loop."""
    return place != () and program.statements[place][0] == "loop"


def loop_around(program, place):
    """The place of the innermost loop around a statement, () if there is none."""
    around = place[:-2]
    while around != () and not is_loop(program, around):
        around = around[:-2]
    return around


def place_behind(program, place):
    """The place at which a body stands behind the statement at this place."""
    while place != ():
        following = place[:-1] + (place[-1] + 1,)
        if following in program.statements:
            return following
        place = place[:-2]
        if is_loop(program, place):
            return place
    return ()


def place_inside(program, place, number):
    """The place at which a body stands when it begins this block of the statement."""
    first = place + (number, 0)
    if first in program.statements:
        return first
    if is_loop(program, place):
        return place
    return place_behind(program, place)
