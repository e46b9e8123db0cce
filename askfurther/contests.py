"""Contests: two handlers side by side, gone through in the order in which what parts them is told."""

from askfurther.machines import nexts_of, shows_of
from askfurther.pools import Pool
from askfurther.trails import Trails, history_of, is_ahead
from askfurther.walks import are_led_together, leader_of


def filled(pool, deeds, counts):
    """The pool with a clause for each of these things that a body does, in each state: what is let by has one, too."""
    lines = list(pool.lines)
    begins = []
    for state, own in enumerate(pool.begins):
        begins.append({})
        for does in deeds:
            begins[state][does] = own.get(does, len(lines))
            if does not in own:
                lines.extend(lines_letting_by(does, state, len(lines), counts))
    return Pool(pool.names, lines, begins)


def lines_letting_by(does, state, shift, counts):
    """The clause that lets by what a body does, standing behind so many other rows."""
    if does[0] == "end":
        return [("finish", does[1])]
    many = counts[does[1]]
    asking = ("ask", does[1], tuple([shift + 1 + answer for answer in range(many)]))
    return [asking] + [("answer", answer, state) for answer in range(many)]


class Leaders:
    """Pairs that are known: also those that others tell by a chain to be alike.

    What parts such a pair would part one of the chain, which came ahead of it.
    """

    def __init__(self, many, others):
        self.many = many
        self.leaders = list(range(many + others))

    def has(self, one, other):
        """Whether the pair is known."""
        return leader_of(self.leaders, one) == leader_of(self.leaders, self.many + other)

    def join_up(self, one, other):
        """Makes the pair known."""
        are_led_together(self.leaders, one, self.many + other)


class Couples:
    """Pairs that are known, each by itself."""

    def __init__(self):
        self.known = {}

    def has(self, one, other):
        """Whether the pair is known."""
        return (one, other) in self.known

    def join_up(self, one, other):
        """Makes the pair known."""
        self.known[(one, other)] = True


class Contest:
    """Two pools that have clauses for the same things, gone through by the same asks and histories.

    An ARRIVAL is a tuple (asks, trail, state, state): two states behind asks and a history. An ITEM is a tuple
    (asks, number of what a body does, trail, row, row). `levels` has for each number of asks all rows of so many
    asks, sorted, told as (number of the row of one ask less, number of what a body does, answer); in arrivals and
    items the asks are told by their number there. `stands` and `places` are the known pairs of states and rows.
    """

    def __init__(self, one, other, deeds, inward):
        self.one = one
        self.other = other
        self.deeds = deeds
        self.inward = inward
        self.trails = Trails()
        self.levels = [[(0, 0, 0)]]
        self.stands = Couples() if inward else Leaders(len(one.begins), len(other.begins))
        self.places = Couples() if inward else Leaders(len(one.lines), len(other.lines))


def parting_of(one, other, deeds, inward):
    """What parts two pools first, as parted_handlers tells it, or within_handlers, if it is told inward; or None."""
    contest = Contest(one, other, deeds, inward)
    arrivals = {0: [(0, 0, 0, 0)]}
    while arrivals:
        found, left = level_through(contest, arrivals)
        if found:
            return told_of_item(contest, found)
        arrivals = arrivals_of(contest, left)
    return None


def level_through(contest, arrivals):
    """Goes through all that comes behind arrivals by one thing that a body does: an item that parts, and what left.

    There are arrivals for each length of the history. What left is told by tuples (asks, number of what the body
    does, answer, length of the history, trail, state, state).
    """
    left = []
    items = []
    size = 0
    lengths = sorted(arrivals, reverse=True)
    while items or lengths:
        if not items:
            size = lengths[-1]
        if lengths and lengths[-1] == size:
            items = put_together(contest, items, begun(contest, arrivals[lengths.pop()]))
        following = []
        for item in items:
            if contest.places.has(item[3], item[4]):
                continue
            contest.places.join_up(item[3], item[4])
            if parts(contest, item):
                return item, left
            go_on(contest, item, size, following, left)
        items = following
        size += 1
    return (), left


def begun(contest, arrivals):
    """The items with which clauses begin in the states of arrivals, in order."""
    items = []
    for asks, trail, one, other in arrivals:
        if not contest.stands.has(one, other):
            contest.stands.join_up(one, other)
            for number, does in enumerate(contest.deeds):
                row = contest.one.stops[contest.one.begins[one][does]]
                other_row = contest.other.stops[contest.other.begins[other][does]]
                items.append((asks, number, trail, row, other_row))
    return sorted(items, key=lambda item: item[:2])


def put_together(contest, items, others):
    """The items of both lists in order."""
    found = []
    place = 0
    for item in items:
        while place < len(others) and comes_before(contest, others[place], item):
            found.append(others[place])
            place += 1
        found.append(item)
    return found + others[place:]


def comes_before(contest, one, other):
    """Whether the one item comes before the other one; their histories have the same length."""
    if one[:2] != other[:2]:
        return one[:2] < other[:2]
    return is_ahead(contest.trails, one[2], other[2])


def shown_at(contest, item):
    """What both show at an item."""
    return (shows_of(contest.one.lines[item[3]]), shows_of(contest.other.lines[item[4]]))


def parts(contest, item):
    """Whether an item shows what is looked for."""
    first, second = shown_at(contest, item)
    return first != second and not (contest.inward and first == ("hang",))


def go_on(contest, item, size, following, left):
    """Takes up what comes behind an item, if both show the same: further items, or what leaves."""
    asks, number, trail, row, other_row = item
    line, other_line = contest.one.lines[row], contest.other.lines[other_row]
    if shows_of(line) != shows_of(other_line):
        return
    if line[0] == "answer" and not contest.stands.has(line[2], other_line[2]):
        left.append((asks, number, line[1], size, trail, line[2], other_line[2]))
    for answer, (index, other_index) in enumerate(zip(nexts_of(line), nexts_of(other_line))):
        stop, other_stop = contest.one.stops[index], contest.other.stops[other_index]
        if not contest.places.has(stop, other_stop):
            following.append((asks, number, contest.trails.behind(trail, line[1], answer), stop, other_stop))


def arrivals_of(contest, left):
    """The arrivals with one ask more: for each length of the history a list in order."""
    rows = sorted({told[:3]: True for told in left})
    contest.levels.append(rows)
    numbers = {row: number for number, row in enumerate(rows)}
    arrivals = {}
    for told in sorted(left, key=lambda thing: thing[:3]):
        arrivals.setdefault(told[3], []).append((numbers[told[:3]],) + told[4:])
    return arrivals


def told_of_item(contest, item):
    """The asks, what is done last, the history, and what both show at an item."""
    asks = []
    number = item[0]
    for rows in contest.levels[:0:-1]:
        number, deed, answer = rows[number]
        asks.append((contest.deeds[deed][1], answer))
    history = history_of(contest.trails, item[2])
    return (tuple(asks[::-1]), contest.deeds[item[1]], history) + shown_at(contest, item)
