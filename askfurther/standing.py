"""Standing: bodies that have come behind a history, as values, or as runs that change."""

from askfurther.errors import BadAnswer, BadChoices, BadCount, NoOperation
from askfurther.forms import is_index, is_integer, is_row, is_text_in, is_within, joined
from askfurther.machines import shows_of
from askfurther.walks import Walk, parting_place

MOST_STEPS = 1000
MOST_ROWS = 20


class Stand:
    """A body behind a history, at first the empty one. It never changes."""

    def __init__(self, body):
        self.body = body
        self.at = body.machine.stops[body.machine.begin]
        self.history = ()

    @property
    def shows(self):
        """What the body shows there."""
        return shows_of(self.body.machine.lines[self.at])

    @property
    def past(self):
        """The history, a tuple."""
        return self.history

    def __call__(self, answer):
        line = self.body.machine.lines[self.at]
        if not is_answer_to(line, answer):
            raise BadAnswer(answer)
        return stand_at(self.body, self.body.machine.stops[line[2][answer]], self.history + ((line[1], answer),))

    def __len__(self):
        return len(self.history)

    def __eq__(self, other):
        return isinstance(other, Stand) and self.body == other.body and self.history == other.history


def stand_at(body, at, history):
    """The stand at this row, behind this history."""
    stand = Stand(body)
    stand.at = at
    stand.history = history
    return stand


def is_answer_to(line, answer):
    """Whether a body that rests at this row asks something of which this is an answer."""
    return line[0] == "ask" and is_index(answer, len(line[2]))


def alike_from(one, other):
    """Whether two stands show the same behind each history that can come from there on."""
    machine, other_machine = one.body.machine, other.body.machine
    joined([machine.counts, other_machine.counts])
    return parting_place(Walk(machine, other_machine, (one.at, other.at))) < 0


class Saved:
    """How a run stood where a block was begun, and what was saved of the block around it."""

    def __init__(self, run, around):
        self.at = run.at
        self.history = run.history
        self.held = run.held
        self.around = around


class Run:
    """A body that is gone through. It changes; a block of `with` sets it back to where it stood."""

    def __init__(self, body):
        self.body = body
        self.at = body.machine.stops[body.machine.begin]
        self.history = []
        self.held = {}
        self.saved = None

    @property
    def shows(self):
        """What the body shows where the run stands."""
        return shows_of(self.body.machine.lines[self.at])

    @property
    def past(self):
        """The history behind which it stands, a tuple."""
        return tuple(self.history)

    def go_on(self, answer):
        """Goes on with this answer to what is asked."""
        line = self.body.machine.lines[self.at]
        if not is_answer_to(line, answer):
            raise BadAnswer(answer)
        self.history.append((line[1], answer))
        self.at = self.body.machine.stops[line[2][answer]]

    def __call__(self, most):
        if not is_within(most, 0, MOST_STEPS):
            raise BadCount(most)
        many = 0
        while many < most and self.shows[0] == "ask" and self.shows[1] in self.held:
            self.go_on(self.held[self.shows[1]])
            many += 1
        return many

    def __getitem__(self, at):
        return self.held[at] if is_text_in(at, self.held) else None

    def __setitem__(self, at, worth):
        counts = self.body.machine.counts
        if not is_text_in(at, counts):
            raise NoOperation(at)
        if not is_index(worth, counts[at]):
            raise BadAnswer(worth)
        self.held = {**self.held, at: worth}

    def __contains__(self, operation):
        return is_text_in(operation, self.held)

    def __iter__(self):
        raise TypeError("runs are not iterated over")

    def __enter__(self):
        self.saved = Saved(self, self.saved)
        self.history = list(self.history)
        return self

    def __exit__(self, kind, value, trace):
        self.at = self.saved.at
        self.history = self.saved.history
        self.held = self.saved.held
        self.saved = self.saved.around


def played(body, choices):
    """The history to which choices lead from the start of the body, and what it shows there."""
    return tried(Run(body), choices)


def tried(run, choices):
    """The history to which choices lead from where the run stands, and what it shows there; the run stays there."""
    check_choices(choices)
    with run:
        for choice in choices:
            line = run.body.machine.lines[run.at]
            if line[0] != "ask" or len(line[2]) == 0:
                break
            run.go_on(choice % len(line[2]))
        return (run.past, run.shows)


def check_choices(choices):
    """Refuses what is no row of integers from 0 on."""
    if not is_row(choices):
        raise BadChoices(-1)
    for index, choice in enumerate(choices):
        if not is_integer(choice) or choice < 0:
            raise BadChoices(index)


def tried_within(run, answers):
    """What the run shows behind all these rows of answers, and behind each block of `with` for one of them."""
    if not is_row(answers) or len(answers) > MOST_ROWS or not all([is_row(row) for row in answers]):
        raise BadCount(-1)
    return shown_within(run, answers, 0)


def shown_within(run, answers, number):
    """What the run shows behind the rows of answers from this number on, then outside of the block for each one."""
    if number == len(answers):
        return [run.shows]
    with run:
        for answer in answers[number]:
            run.go_on(answer)
        told = shown_within(run, answers, number + 1)
    return told + [run.shows]
