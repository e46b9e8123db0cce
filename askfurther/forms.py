"""Forms: what an integer, a name, a row or operations are, whatever object is passed."""

from askfurther.errors import Mismatch

LETTERS = "abcdefghijklmnopqrstuvwxyz"
LONGEST_NAME = 8
MOST_OPERATIONS = 8
MOST_ANSWERS = 6


def is_integer(thing):
    """Whether it is an integer; True and False are none."""
    return isinstance(thing, int) and not isinstance(thing, bool)


def is_within(thing, low, high):
    """Whether it is an integer from low to high."""
    return is_integer(thing) and low <= thing <= high


def is_index(thing, many):
    """Whether it is one of the integers from 0 to below many."""
    return is_within(thing, 0, many - 1)


def is_row(thing):
    """Whether it is a list or a tuple."""
    return isinstance(thing, (list, tuple))


def is_name(thing):
    """Whether it is a text of 1 to 8 small letters."""
    if not isinstance(thing, str) or not 1 <= len(thing) <= LONGEST_NAME:
        return False
    return all([letter in LETTERS for letter in thing])


def name_of(number):
    """The name with this number: the letters from a to z, then the texts of two letters in their order, and so on."""
    many = len(LETTERS)
    name = LETTERS[number % many]
    while number >= many:
        number = number // many - 1
        name = LETTERS[number % many] + name
    return name


def is_text_in(thing, table):
    """Whether it is a text that stands there; other objects may not be fit to be looked up in a dict."""
    return isinstance(thing, str) and thing in table


def are_counts(thing, most, low, high):
    """Whether it is a dict from at most so many names to integers from low to high."""
    if not isinstance(thing, dict) or len(thing) > most:
        return False
    return all([is_name(name) and is_within(many, low, high) for name, many in thing.items()])


def are_operations(thing):
    """Whether it is a dict of operations."""
    return are_counts(thing, MOST_OPERATIONS, 0, MOST_ANSWERS)


def in_order(table):
    """A new dict with the same items, its names sorted: the order of the passed one means nothing."""
    return {name: table[name] for name in sorted(table)}


def word_of(row):
    """The word with which a row begins, an empty text if it begins with none or is no row."""
    if is_row(row) and len(row) > 0 and isinstance(row[0], str):
        return row[0]
    return ""


def texts_of(row):
    """The texts of a row as a tuple, an empty one if there are others in it or it is no row."""
    if is_row(row) and all([isinstance(part, str) for part in row]):
        return tuple(row)
    return ()


def are_nexts(nexts, operation, counts, many):
    """Whether it is a row with an index of one of so many rows for each answer of the operation."""
    if not is_row(nexts) or len(nexts) != counts[operation]:
        return False
    return all([is_index(index, many) for index in nexts])


def are_unlike(one, other):
    """Whether an operation has unlike numbers of answers in two dicts of operations."""
    return any([operation in other and other[operation] != many for operation, many in one.items()])


def joined(tables):
    """The operations of all these dicts in one; none may have unlike numbers of answers in two of them."""
    counts = {}
    unlike = []
    for table in tables:
        for operation, many in table.items():
            if counts.setdefault(operation, many) != many:
                unlike.append(operation)
    if unlike:
        raise Mismatch(min(unlike))
    return in_order(counts)
