"""Likeness: whether two bodies do the same, whatever stands around them, and what parts them."""

from askfurther.bodies import body_of
from askfurther.errors import Parted
from askfurther.forms import is_index, is_row, joined, name_of
from askfurther.handlers import handler_of
from askfurther.keepers import keeper_of_table
from askfurther.leasts import merged
from askfurther.walks import Walk, begin_of, both_shown, pairs_behind, parting_place, straying_place, told_of


def parted(one, other):
    """The least history behind which two bodies show unlike things, with these; None if they are alike."""
    walk = walk_of(one, other)
    return told_of(walk, parting_place(walk))


def walk_of(one, other):
    """The walk of two bodies, if their operations go together."""
    joined([one.machine.counts, other.machine.counts])
    return Walk(one.machine, other.machine, begin_of(one.machine, other.machine))


def least(body):
    """The least body that is alike to it."""
    machine = body.machine
    counts = {operation: machine.counts[operation] for operation in machine.asks}
    return body_of(merged(counts, machine.lines, machine.begin))


def pairs(one, other):
    """The sorted list of the pairs of rows at which two bodies that are alike stand behind the same histories."""
    told = parted(one, other)
    if told is not None:
        raise Parted(told[0])
    walk = walk_of(one, other)
    straying_place(walk)
    return sorted(walk.met)


def pairs_fault(one, other, pairs):
    """Why a row of pairs is not closed; None if it is, which shows that the bodies are alike."""
    joined([one.machine.counts, other.machine.counts])
    if not is_row(pairs):
        return ("pairs", -1)
    for number, pair in enumerate(pairs):
        if not is_pair(pair, one.machine, other.machine):
            return ("pairs", number)
    known = {tuple(pair): True for pair in pairs}
    if begin_of(one.machine, other.machine) not in known:
        return ("begin",)
    for number, pair in enumerate(pairs):
        fault = step_fault(one.machine, other.machine, pair, known)
        if fault is not None:
            return (fault[0], number) + fault[1:]
    return None


def is_pair(thing, one, other):
    """Whether it is a pair of rows at which the machines rest."""
    if not is_row(thing) or len(thing) != 2:
        return False
    return is_rest(thing[0], one) and is_rest(thing[1], other)


def is_rest(thing, machine):
    """Whether it is the index of a row at which the machine rests."""
    return is_index(thing, len(machine.lines)) and machine.stops[thing] == thing


def step_fault(one, other, pair, known):
    """Why a pair does not keep a row of pairs closed: the word, and the pair that is missing; None if it does."""
    first, second = both_shown(one, other, pair)
    if first != second:
        return ("shows",)
    for following in pairs_behind(one, other, pair):
        if following not in known:
            return ("step", following)
    return None


def within(one, other):
    """Where the one body does not hang and the other does not do the same, as parted tells it; None if nowhere."""
    walk = walk_of(one, other)
    return told_of(walk, straying_place(walk))


def parting_handler(one, other):
    """A handler around which it is seen at once which of two bodies it is; None if they are alike."""
    told = parted(one, other)
    if told is None:
        return None
    history, first, second = told
    deeds = [("ask", operation) for operation, answer in history] + [first, second]
    asked = sorted({does[1]: True for does in deeds if does[0] == "ask"})
    table = {}
    for number in range(len(history) + 1):
        for operation in asked:
            table[(name_of(number), ("ask", operation))] = (("go", 0),)
    for number, (operation, answer) in enumerate(history):
        table[(name_of(number), ("ask", operation))] = (("answer", answer, name_of(number + 1)),)
    for shows, word in ((first, "one"), (second, "other")):
        if shows != ("hang",):
            table[(name_of(len(history)), shows)] = (("finish", word),)
    counts = {**one.machine.counts, **other.machine.counts}
    handles = {operation: counts[operation] for operation in asked}
    return handler_of(keeper_of_table(handles, {}, name_of(0), table))
