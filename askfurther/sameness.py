"""Sameness: whether two handlers do the same around all bodies, what parts them, and the least handler."""

from askfurther.bodies import body_of
from askfurther.contests import filled, parting_of
from askfurther.errors import Apart
from askfurther.forms import in_order, is_row, is_text_in, joined, name_of
from askfurther.handlers import handler_of
from askfurther.keepers import keeper_of_pool
from askfurther.leasts import merged
from askfurther.machines import nexts_of, shows_of
from askfurther.pools import owners_of, reduced


def parted_handlers(one, other):
    """What a body does so that two handlers show unlike things, the least there is; None if they are alike."""
    first, second, deeds = sides_of(one, other)
    return parting_of(first, second, deeds, False)


def within_handlers(one, other):
    """Where the one handler does not hang and the other does not do the same, as parted_handlers tells it."""
    first, second, deeds = sides_of(one, other)
    return parting_of(first, second, deeds, True)


def sides_of(one, other):
    """The pools of both handlers with clauses for all that a body may do, and the sorted list of this."""
    mine, theirs = one.keeper, other.keeper
    counts = joined([mine.counts, mine.outside, theirs.counts, theirs.outside])
    deeds = deeds_of([mine.pool, theirs.pool])
    return filled(mine.pool, deeds, counts), filled(theirs.pool, deeds, counts), deeds


def deeds_of(pools):
    """The sorted list of what a body may do for which one of the pools has a clause."""
    return sorted({does: True for pool in pools for own in pool.begins for does in own})


def parting_body(one, other):
    """A body that is not alike within two handlers; None if they are alike."""
    told = parted_handlers(one, other)
    if told is None:
        return None
    asks, last = told[:2]
    counts = in_order({**one.keeper.counts, **other.keeper.counts})
    words = words_beside([one.keeper.pool, other.keeper.pool], 1 + max(list(counts.values()), default=0))
    lines = [("end", words[0])]
    for operation, answer in asks:
        nexts = [0] * counts[operation]
        nexts[answer] = len(lines) + 1
        lines.append(("ask", operation, tuple(nexts)))
    if last[0] == "end":
        lines.append(last)
    else:
        behind = len(lines) + 1
        lines.append(("ask", last[1], tuple([behind + answer for answer in range(counts[last[1]])])))
        lines.extend([("end", word) for word in words])
    return body_of(merged(counts, lines, 1))


def words_beside(pools, many):
    """So many words with which no clause of the pools finishes, and for which they have no clauses."""
    taken = {}
    for pool in pools:
        taken.update({line[1]: True for line in pool.lines if line[0] == "finish"})
        taken.update({does[1]: True for own in pool.begins for does in own})
    words = []
    number = 0
    while len(words) < many:
        if name_of(number) not in taken:
            words.append(name_of(number))
        number += 1
    return words


def state_pairs(one, other):
    """The sorted list of the pairs of states of two handlers that are alike behind the same asks and histories."""
    first, second, deeds = sides_of(one, other)
    told = parting_of(first, second, deeds, False)
    if told is not None:
        raise Apart(told[0])
    asked = [does for does in deeds if does[0] == "ask"]
    met = [(0, 0)]
    known = {(0, 0): True}
    places = {}
    done = 0
    while done < len(met):
        for does in asked:
            for pair in clauses_through(first, second, met[done], does, places)[1]:
                if pair not in known:
                    known[pair] = True
                    met.append(pair)
        done += 1
    return sorted([(first.names[state], second.names[other_state]) for state, other_state in met])


def clauses_through(one, other, pair, does, known):
    """Goes through the clauses of a pair of states side by side, passing over pairs of rows that are known already.

    Tells whether all that was met shows the same, and the pairs of states behind the answers.
    """
    begin, other_begin = one.begins[pair[0]][does], other.begins[pair[1]][does]
    waiting = [(one.stops[begin], other.stops[other_begin])]
    behind = {}
    alike = True
    while waiting:
        at = waiting.pop()
        if at in known:
            continue
        known[at] = True
        line, other_line = one.lines[at[0]], other.lines[at[1]]
        if shows_of(line) != shows_of(other_line):
            alike = False
        elif line[0] == "answer":
            behind[(line[2], other_line[2])] = True
        else:
            for index, other_index in zip(nexts_of(line), nexts_of(other_line)):
                waiting.append((one.stops[index], other.stops[other_index]))
    return alike, list(behind)


def state_pairs_fault(one, other, pairs):
    """Why a row of pairs of states is not closed; None if it is, which shows that the handlers are alike."""
    first, second, deeds = sides_of(one, other)
    if not is_row(pairs):
        return ("pairs", -1)
    numbers = [{name: number for number, name in enumerate(side.names)} for side in (first, second)]
    for place, pair in enumerate(pairs):
        if not is_pair_of_states(pair, numbers):
            return ("pairs", place)
    couples = [(numbers[0][pair[0]], numbers[1][pair[1]]) for pair in pairs]
    there = {couple: True for couple in couples}
    if (0, 0) not in there:
        return ("begin",)
    # What was gone through without a fault has none behind it either, and need not be gone through again.
    known = {}
    for place, couple in enumerate(couples):
        for does in deeds:
            alike, behind = clauses_through(first, second, couple, does, known)
            lost = sorted([named_pair(first, second, led) for led in behind if led not in there])
            if not alike:
                return ("shows", place, does)
            if lost:
                return ("step", place, does, lost[0])
    return None


def is_pair_of_states(thing, numbers):
    """Whether it is a pair of names that stand in these two dicts."""
    if not is_row(thing) or len(thing) != 2:
        return False
    return is_text_in(thing[0], numbers[0]) and is_text_in(thing[1], numbers[1])


def named_pair(one, other, couple):
    """The names of two states that are told by their numbers."""
    return (one.names[couple[0]], other.names[couple[1]])


def least_handler(handler):
    """The least handler that is alike to it."""
    keeper = handler.keeper
    pool = filled(keeper.pool, deeds_of([keeper.pool]), keeper.counts)
    owners = owners_of(pool)
    states = states_met(pool)
    told = {}
    for state in states:
        for does in pool.begins[state]:
            if not lets_by(pool, owners, state, does):
                told[does] = True
    counts = {operation: many for operation, many in keeper.counts.items() if ("ask", operation) in told}
    begins = [own_clauses(pool, owners, state, told) for state in range(len(pool.begins))]
    small = reduced(pool, owners, begins)
    asked = {line[1]: True for line in small.lines if line[0] == "ask"}
    outside = {operation: many for operation, many in keeper.outside.items() if operation in asked}
    return handler_of(keeper_of_pool(counts, outside, small))


def own_clauses(pool, owners, state, told):
    """Where those clauses of a state begin that the least handler has: of ends only what is not let by."""
    begins = {}
    for does, begin in pool.begins[state].items():
        if does in told and (does[0] == "ask" or not lets_by(pool, owners, state, does)):
            begins[does] = begin
    return begins


def states_met(pool):
    """The numbers of the states in which the handler can be around some body."""
    known = {}
    states = [0]
    met = {0: True}
    done = 0
    while done < len(states):
        waiting = [begin for does, begin in pool.begins[states[done]].items() if does[0] == "ask"]
        while waiting:
            stop = pool.stops[waiting.pop()]
            if stop not in known:
                known[stop] = True
                waiting.extend(nexts_of(pool.lines[stop]))
                line = pool.lines[stop]
                if line[0] == "answer" and line[2] not in met:
                    met[line[2]] = True
                    states.append(line[2])
        done += 1
    return states


def lets_by(pool, owners, state, does):
    """Whether a handler in this state lets by what a body does, its clause doing just this."""
    line = pool.lines[pool.stops[pool.begins[state][does]]]
    if does[0] == "end":
        return line == ("finish", does[1])
    if shows_of(line) != does:
        return False
    for answer, index in enumerate(line[2]):
        behind = pool.lines[pool.stops[index]]
        if shows_of(behind) != ("answer", answer) or owners[behind[2]] != owners[state]:
            return False
    return True
