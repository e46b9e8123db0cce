"""Walks: two machines side by side, gone through by the same histories."""

from askfurther.machines import nexts_of, shows_of


class Walk:
    """The pairs of rows of rest to which two machines come behind the same histories, beginning at one of them.

    `met` has them in the order of the first histories behind which they are met, the shorter ones ahead; `origins`
    has for each one the number of the pair ahead of it, and the answer that led on.
    """

    def __init__(self, one, other, begin):
        self.one = one
        self.other = other
        self.met = [begin]
        self.origins = [(-1, -1)]

    def take(self, pair, number, answer):
        """Takes up a pair to which this answer leads from the pair with this number."""
        self.met.append(pair)
        self.origins.append((number, answer))


def begin_of(one, other):
    """The pair at which two machines begin."""
    return (one.stops[one.begin], other.stops[other.begin])


def both_shown(one, other, pair):
    """What two machines show at a pair."""
    return (shows_of(one.lines[pair[0]]), shows_of(other.lines[pair[1]]))


def pairs_behind(one, other, pair):
    """The pairs to which two machines come, by the answers in order, from one at which they ask the same."""
    nexts, other_nexts = nexts_of(one.lines[pair[0]]), nexts_of(other.lines[pair[1]])
    return [(one.stops[index], other.stops[other_index]) for index, other_index in zip(nexts, other_nexts)]


def parting_place(walk):
    """The number of the first pair of the walk that shows unlike things, -1 if there is none.

    A pair is not taken up if others say by a chain that its rows must be alike: what parts it would part one of
    those, which were met ahead of it. So there are no more pairs than rows.
    """
    many = len(walk.one.lines)
    leaders = list(range(many + len(walk.other.lines)))
    are_led_together(leaders, walk.met[0][0], many + walk.met[0][1])
    done = 0
    while done < len(walk.met):
        first, second = both_shown(walk.one, walk.other, walk.met[done])
        if first != second:
            return done
        behind = pairs_behind(walk.one, walk.other, walk.met[done])
        for answer, pair in enumerate(behind):
            if not are_led_together(leaders, pair[0], many + pair[1]):
                walk.take(pair, done, answer)
        done += 1
    return -1


def are_led_together(leaders, one, other):
    """Whether two things have the same leader already; from now on they have."""
    first, second = leader_of(leaders, one), leader_of(leaders, other)
    leaders[second] = first
    return first == second


def leader_of(leaders, thing):
    """The leader of a thing; the way to it is made shorter."""
    while leaders[thing] != thing:
        leaders[thing] = leaders[leaders[thing]]
        thing = leaders[thing]
    return thing


def straying_place(walk):
    """The number of the first pair at which the one does not hang and the other shows something else, or -1."""
    known = {walk.met[0]: True}
    done = 0
    while done < len(walk.met):
        first, second = both_shown(walk.one, walk.other, walk.met[done])
        if first != second and first != ("hang",):
            return done
        behind = []
        if first == second:
            behind = pairs_behind(walk.one, walk.other, walk.met[done])
        for answer, pair in enumerate(behind):
            if pair not in known:
                known[pair] = True
                walk.take(pair, done, answer)
        done += 1
    return -1


def told_of(walk, number):
    """The history that leads to the pair with this number, and what both show there; None for -1."""
    if number < 0:
        return None
    first, second = both_shown(walk.one, walk.other, walk.met[number])
    history = []
    while walk.origins[number][0] >= 0:
        number, answer = walk.origins[number]
        history.append((walk.one.lines[walk.met[number][0]][1], answer))
    return (tuple(history[::-1]), first, second)
