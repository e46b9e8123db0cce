"""Reach: what a handler can come to, around one body or around all of them."""

from askfurther.errors import NoOperation, NoState
from askfurther.forms import is_text_in
from askfurther.machines import rests_from, stops_of
from askfurther.wholes import whole_of


def met(handler, body):
    """The clauses, and the clauses of ends, that are begun in some run of the body within the handler."""
    whole = whole_of(handler, body)
    begun = {}
    for at in whole.found.things:
        if len(at) == 3:
            begun[(at[1], body.machine.lines[at[0]][:2])] = True
    asked = sorted([(state, does[1]) for state, does in begun if does[0] == "ask"])
    ended = sorted([(state, does[1]) for state, does in begun if does[0] == "end"])
    return (asked, ended)


def way_to(handler, state):
    """The least row of operations behind which the handler can be in the state; None if it never can."""
    if not is_text_in(state, handler.keeper.stands):
        raise NoState(state)
    origins = origins_of(handler.keeper)
    if state not in origins:
        return None
    way = []
    while origins[state][1] != "":
        way.append(origins[state][1])
        state = origins[state][0]
    return tuple(way[::-1])


def unmet(handler):
    """The sorted list of the states in which the handler cannot be around any body."""
    origins = origins_of(handler.keeper)
    return [state for state in handler.keeper.stands if state not in origins]


def answers(handler, operation):
    """The sorted list of the answers that the handler gives to the operation around some body."""
    if not is_text_in(operation, handler.keeper.counts):
        raise NoOperation(operation)
    given = {}
    for state in origins_of(handler.keeper):
        for line in answers_to(handler.keeper, state, operation):
            given[line[1]] = True
    return sorted(given)


def origins_of(keeper):
    """For each state that can come one ahead of it, and the operation that leads on; the start has ("", "").

    States behind the same row of operations stand in one group: the groups come in the order of these rows, which
    makes the first way to a state the least one.
    """
    origins = {keeper.begin: ("", "")}
    groups = [[keeper.begin]]
    done = 0
    while done < len(groups):
        for operation in sorted(keeper.counts):
            fresh = []
            for state in groups[done]:
                for line in answers_to(keeper, state, operation):
                    if line[2] not in origins:
                        origins[line[2]] = (state, operation)
                        fresh.append(line[2])
            if fresh:
                groups.append(fresh)
        done += 1
    return origins


def answers_to(keeper, state, operation):
    """The "answer" rows to which the clause for the operation comes in this state."""
    clause = keeper.table[(state, ("ask", operation))]
    lines = [clause[place] for place in rests_from(clause, stops_of(clause), 0)]
    return [line for line in lines if line[0] == "answer"]
