"""Plans: the parts of a work that are known to be right."""

from askfurther.bodies import is_line, line_of
from askfurther.errors import BadWork
from askfurther.forms import is_index, is_name, is_row, is_text_in, joined, word_of

MAIN = "main"
MOST_FUNCTIONS = 6
MOST_LINES = 60
MOST_KEYS = 8


class Plan:
    """Operations, handlers by names and functions that fit together.

    `names` are the names of the functions in order, `blocks` has the rows of each one; the words of a "call" or
    "handle" row stand behind it as the sorted tuple of its items. `counts` are the numbers of answers of the work's
    own operations, `joint` of those of all the handlers, too.
    """

    def __init__(self, counts, handlers, functions):
        self.counts = counts
        self.keepers = {name: handlers[name].keeper for name in handlers}
        self.names = []
        if not is_row(functions) or not 1 <= len(functions) <= MOST_FUNCTIONS:
            raise BadWork(())
        for number, function in enumerate(functions):
            if not is_function(function) or function[0] in self.names:
                raise BadWork((number,))
            self.names.append(function[0])
        if MAIN not in self.names:
            raise BadWork(())
        for number, function in enumerate(functions):
            for index, row in enumerate(function[1]):
                if not is_step(self, row, len(function[1])):
                    raise BadWork((number, index))
        self.blocks = {name: steps_of(block) for name, block in functions}
        for number, name in enumerate(self.names):
            for index, row in enumerate(self.blocks[name]):
                if row[0] == "handle" and name in functions_run(self, row[2], ("call", "handle")):
                    raise BadWork((number, index))
        tables = [[keeper.counts, keeper.outside] for keeper in list(self.keepers.values())]
        self.joint = joined([counts] + [table for pair in tables for table in pair])


def is_function(thing):
    """Whether it is a pair of a name and a row of 1 to 60 elements."""
    if not is_row(thing) or len(thing) != 2 or not is_name(thing[0]):
        return False
    return is_row(thing[1]) and 1 <= len(thing[1]) <= MOST_LINES


def is_step(plan, row, many):
    """Whether it is a row of a function of so many rows."""
    word = word_of(row)
    if word == "call":
        return len(row) == 3 and can_run(plan, row[1]) and are_words(row[2], many)
    if word == "handle":
        named = len(row) == 4 and is_text_in(row[1], plan.keepers)
        return named and can_run(plan, row[2]) and are_words(row[3], many)
    return is_line(row, plan.counts, many)


def can_run(plan, thing):
    """Whether it is the name of a function that may be run by others."""
    return isinstance(thing, str) and thing in plan.names and thing != MAIN


def are_words(thing, many):
    """Whether it is a dict from at most 8 words to indexes of so many rows, or a row of such items."""
    if not isinstance(thing, dict) and not is_row(thing) or len(thing) > MOST_KEYS:
        return False
    items = items_of(thing)
    if not all([is_row(item) and len(item) == 2 and is_name(item[0]) and is_index(item[1], many) for item in items]):
        return False
    return len({item[0]: True for item in items}) == len(items)


def items_of(thing):
    """The items of a dict, or of the row that stands in its place."""
    if isinstance(thing, dict):
        return list(thing.items())
    return list(thing)


def steps_of(block):
    """The rows of a function as tuples at every depth."""
    return tuple([step_of(row) for row in block])


def step_of(row):
    """A row of a function as a tuple at every depth."""
    if row[0] in ("call", "handle"):
        return tuple(row[:-1]) + (tuple(sorted([tuple(item) for item in items_of(row[-1])])),)
    return line_of(row)


def functions_run(plan, name, words):
    """The functions that can be come to from this one, itself among them, by rows that begin with these words."""
    found = [name]
    done = 0
    while done < len(found):
        for row in plan.blocks[found[done]]:
            if row[0] in words and row[-2] not in found:
                found.append(row[-2])
        done += 1
    return found


def are_equal_plans(one, other):
    """Whether two plans have the same operations and functions."""
    return one.counts == other.counts and one.names == other.names and one.blocks == other.blocks


def functions_of(plan):
    """The list of the functions, each a tuple of its name and its rows."""
    return [(name, plan.blocks[name]) for name in plan.names]
