"""The errors of the package: all under AskError, and none of them under another one.

Each one keeps what it is made of, unchanged, in the field of its name.
"""


class AskError(ValueError):
    """What this package raises."""


class BadOperations(AskError):
    """What should be operations are none."""


class BadBody(AskError):
    """The row of a body with this index is none; -1 if there is no row of 1 to 400 of them."""

    def __init__(self, index):
        self.index = index


class BadStart(AskError):
    """This is no index of a row at which a body could start."""

    def __init__(self, index):
        self.index = index


class NoRow(AskError):
    """A body has no row with this index."""

    def __init__(self, index):
        self.index = index


class BadOthers(AskError):
    """What should be a dict from words to bodies is none."""


class BadHistory(AskError):
    """The element of a history with this index cannot come there; -1 if there is no row."""

    def __init__(self, index):
        self.index = index


class BadSizes(AskError):
    """What should be the sizes of variables are none."""


class BadProgram(AskError):
    """The statement at this place is wrong; () if the block is no row."""

    def __init__(self, place):
        self.place = place


class BadHandler(AskError):
    """This part of a handler is not as it must be."""

    def __init__(self, part):
        self.part = part


class Mismatch(AskError):
    """This operation has unlike numbers of answers."""

    def __init__(self, operation):
        self.operation = operation


class TooMany(AskError):
    """More than this many unlike things can come."""

    def __init__(self, many):
        self.many = many


class Parted(AskError):
    """Two bodies are not alike: this history parts them."""

    def __init__(self, history):
        self.history = history


class NoState(AskError):
    """A handler has no such state."""

    def __init__(self, state):
        self.state = state


class NoOperation(AskError):
    """There is no such operation."""

    def __init__(self, operation):
        self.operation = operation


class Apart(AskError):
    """Two handlers are not alike: these asks lead to what parts them."""

    def __init__(self, asks):
        self.asks = asks


class BadAnswer(AskError):
    """This is no answer to what is asked."""

    def __init__(self, answer):
        self.answer = answer


class BadChoices(AskError):
    """The choice with this index is none; -1 if there is no row of them."""

    def __init__(self, index):
        self.index = index


class BadCount(AskError):
    """This is no number of the kind that is counted here."""

    def __init__(self, many):
        self.many = many


class NoIndex(AskError):
    """There is no history with this number."""

    def __init__(self, index):
        self.index = index


class Endless(AskError):
    """There are infinitely many histories."""


class BadHandlers(AskError):
    """What should be a dict from names to handlers is none."""


class BadWork(AskError):
    """The part of a work at this place is wrong; () for the functions as a whole."""

    def __init__(self, place):
        self.place = place


class NoEntry(AskError):
    """No function begins to run in this way."""


class Recursive(AskError):
    """This function can come to itself by calls."""

    def __init__(self, function):
        self.function = function


class TooLong(AskError):
    """A shortest history has this many elements, which is too many to be told."""

    def __init__(self, many):
        self.many = many


class NoText(AskError):
    """The line with this number is not as it must be; -1 for what is no text."""

    def __init__(self, line):
        self.line = line
