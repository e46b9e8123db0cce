"""Outcomes: all that can come of all answers, counted and numbered."""

from askfurther.bodies import shown
from askfurther.errors import BadCount, Endless, NoIndex
from askfurther.forms import is_index, is_within, texts_of
from askfurther.leasts import merged
from askfurther.machines import nexts_of, shows_of

MOST_ELEMENTS = 1000
BLOCK = 32


def counted(body, many):
    """How many histories with just so many elements lead to each thing that the body shows behind them."""
    check_many(many)
    lines = lines_of(body)
    ways = ways_at(lines, 0)
    for turn in range(many):
        ways = ways_on(lines, ways)
    return by_shows(lines, ways)


def check_many(many):
    """Refuses what is no number of elements."""
    if not is_within(many, 0, MOST_ELEMENTS):
        raise BadCount(many)


def lines_of(body):
    """The rows of the least body that is alike: it begins at the first one, and there is a way to each one."""
    machine = body.machine
    return merged(machine.counts, machine.lines, machine.begin).lines


def ways_at(lines, place):
    """For each row 1 if it is the one at this place, otherwise 0."""
    return [1 if number == place else 0 for number in range(len(lines))]


def ways_on(lines, ways):
    """For each row the number of ways to it, told by how many there were to those ahead, one answer earlier."""
    further = [0] * len(lines)
    for line, many in zip(lines, ways):
        if many > 0:
            for index in nexts_of(line):
                further[index] += many
    return further


def by_shows(lines, ways):
    """The numbers of ways put together for each thing that is shown, without those that are 0."""
    numbers = {}
    for line, many in zip(lines, ways):
        if many > 0:
            numbers[shows_of(line)] = numbers.get(shows_of(line), 0) + many
    return numbers


class Layers:
    """For each number of answers the numbers of ways from each row, by just so many of them, to what is looked for.

    Only every 32nd layer is kept, as all of them would need too much room; those between are made as they are needed.
    """

    def __init__(self, lines, goal, many):
        self.lines = lines
        self.kept = [goal]
        self.block = -1
        self.layers = []
        while len(self.kept) <= many // BLOCK:
            self.kept.append(layers_from(lines, self.kept[-1], BLOCK)[BLOCK])

    def layer(self, many):
        """The layer for so many answers."""
        if many // BLOCK != self.block:
            self.block = many // BLOCK
            self.layers = layers_from(self.lines, self.kept[self.block], BLOCK - 1)
        return self.layers[many % BLOCK]


def layers_from(lines, layer, many):
    """The layer and so many further ones, each for one answer more."""
    layers = [layer]
    for turn in range(many):
        ahead = layers[-1]
        layers.append([sum([ahead[index] for index in nexts_of(line)]) for line in lines])
    return layers


def numbered(body, many, shows, index):
    """The history with this number among the sorted ones of this length behind which the body shows this."""
    check_many(many)
    lines = lines_of(body)
    wanted = texts_of(shows)
    layers = Layers(lines, [1 if shows_of(line) == wanted else 0 for line in lines], many)
    if not is_index(index, layers.layer(many)[0]):
        raise NoIndex(index)
    history = []
    at = 0
    left = index
    while len(history) < many:
        line = lines[at]
        layer = layers.layer(many - 1 - len(history))
        answer = 0
        while left >= layer[line[2][answer]]:
            left -= layer[line[2][answer]]
            answer += 1
        history.append((line[1], answer))
        at = line[2][answer]
    return tuple(history)


def index_of(body, history):
    """The number of a history among the sorted ones of its length behind which the body shows the same."""
    shows = shown(body, history)
    lines = lines_of(body)
    at = 0
    ahead = [0] * len(lines)
    for operation, answer in history:
        ahead = ways_on(lines, ahead)
        for index in lines[at][2][:answer]:
            ahead[index] += 1
        at = lines[at][2][answer]
    return by_shows(lines, ahead).get(shows, 0)


def first_to(body, shows):
    """The least history behind which the body shows this; None if there is none."""
    lines = lines_of(body)
    wanted = texts_of(shows)
    met = [0]
    origins = {0: (0, 0)}
    for at in range(len(lines)):
        if shows_of(lines[met[at]]) == wanted:
            return history_to(lines, origins, met[at])
        for answer, index in enumerate(nexts_of(lines[met[at]])):
            if index not in origins:
                origins[index] = (met[at], answer)
                met.append(index)
    return None


def history_to(lines, origins, at):
    """The history that leads to a row from the first one, told by the row and the answer ahead of each one."""
    history = []
    while at > 0:
        at, answer = origins[at]
        history.append((lines[at][1], answer))
    return tuple(history[::-1])


def is_finite(body):
    """Whether there are only finitely many histories that can come."""
    lines = lines_of(body)
    return len(rows_in_order(lines)) == len(lines)


def rows_in_order(lines):
    """The rows, each behind all those that lead to it; without those that a ring of asks leads to."""
    left = [0] * len(lines)
    for line in lines:
        for index in nexts_of(line):
            left[index] += 1
    free = [place for place, many in enumerate(left) if many == 0]
    done = 0
    while done < len(free):
        for index in nexts_of(lines[free[done]]):
            left[index] -= 1
            if left[index] == 0:
                free.append(index)
        done += 1
    return free


def totals(body):
    """How many histories lead to each thing behind which a history cannot go on."""
    lines = lines_of(body)
    order = rows_in_order(lines)
    if len(order) < len(lines):
        raise Endless()
    ways = ways_at(lines, 0)
    for place in order:
        for index in nexts_of(lines[place]):
            ways[index] += ways[place]
    last = [many if len(nexts_of(line)) == 0 else 0 for line, many in zip(lines, ways)]
    return by_shows(lines, last)
