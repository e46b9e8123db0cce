"""Machines: the parts of a body that are known to be right, and what its runs come to."""


class Machine:
    """Operations, rows as tuples and a start that fit together, however many rows they are.

    A machine RESTS at a row where it asks, ends or hangs: `stops` has for each row the one at which it
    rests from there on. A row that hangs rests at the least row of the ring of "go" rows to which it comes.
    """

    def __init__(self, counts, lines, begin):
        self.counts = counts
        self.lines = lines
        self.begin = begin
        self.stops = stops_of(lines)
        rests = [lines[stop] for stop in rests_from(lines, self.stops, begin)]
        self.asks = firsts_of(rests, "ask")
        self.endings = firsts_of(rests, "end")
        self.endless = "go" in [line[0] for line in rests]


def are_equal(one, other):
    """Whether two machines have the same operations, rows and start."""
    return one.counts == other.counts and one.lines == other.lines and one.begin == other.begin


def stops_of(lines):
    """For each row the one at which it rests."""
    stops = [-1] * len(lines)
    walks = [-1] * len(lines)
    for begin in range(len(lines)):
        trail = []
        at = begin
        while stops[at] < 0 and walks[at] != begin and lines[at][0] == "go":
            walks[at] = begin
            trail.append(at)
            at = lines[at][1]
        if stops[at] < 0:
            stops[at] = rest_of(trail, at)
        for passed in trail:
            stops[passed] = stops[at]
    return stops


def rest_of(trail, at):
    """Where a walk rests that has come to a row that does not go on, or to one of its own trail again."""
    if at in trail:
        return min(trail[trail.index(at):])
    return at


def rests_from(lines, stops, begin):
    """The rows at which runs from a row on rest, in the order in which they are met, breadth first."""
    met = [stops[begin]]
    known = {stops[begin]: True}
    done = 0
    while done < len(met):
        for index in nexts_of(lines[met[done]]):
            if stops[index] not in known:
                known[stops[index]] = True
                met.append(stops[index])
        done += 1
    return met


def nexts_of(line):
    """The rows at which a row of rest goes on, by the answers in order."""
    if line[0] == "ask":
        return line[2]
    return ()


def shows_of(line):
    """What a body shows that rests at this row."""
    if line[0] == "go":
        return ("hang",)
    return (line[0], line[1])


def firsts_of(lines, word):
    """What stands behind this word in the rows that begin with it, sorted, each once."""
    return sorted({line[1]: True for line in lines if line[0] == word})


def cut(lines, stops, begin):
    """The rows of rest that are come to from this one on, numbered in the order in which they are met."""
    met = rests_from(lines, stops, begin)
    places = {stop: place for place, stop in enumerate(met)}
    return [mapped(lines[stop], lambda index: places[stops[index]]) for stop in met]


def mapped(line, place_of):
    """The row, but with place_of(index) for each index of a row in it."""
    if line[0] == "ask":
        return ("ask", line[1], tuple([place_of(index) for index in line[2]]))
    if line[0] == "go":
        return ("go", place_of(line[1]))
    return line


def followed(machine, others):
    """The rows of the machine, but going on with others[word] where it ends with this word."""
    lines = list(machine.lines)
    placed = []
    begins = {}
    for word in machine.endings:
        if word in others:
            begins[word] = begin_among(lines, placed, others[word])
    many = len(machine.lines)
    return [led_on(line, begins) for line in lines[:many]] + lines[many:]


def begin_among(lines, placed, other):
    """Where the other machine begins among the lines; its rows are added if they do not stand there yet.

    Equal machines share their rows: a body put behind several words would else grow by each of them.
    """
    for earlier, begin in placed:
        if are_equal(earlier, other):
            return begin
    shift = len(lines)
    lines.extend([mapped(line, lambda index: index + shift) for line in other.lines])
    placed.append((other, shift + other.begin))
    return shift + other.begin


def led_on(line, begins):
    """The row, but going on at begins[word] if it ends with such a word."""
    if line[0] == "end" and line[1] in begins:
        return ("go", begins[line[1]])
    return line
