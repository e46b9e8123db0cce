"""Section 8 told once more, as plainly as can be, to compare the program with."""

from tests.models import shown_by_rows


def rests(body):
    """For each row the one at which the body rests from there on; a hang is told by the least row of its ring."""
    rows = body.rows()
    found = []
    for at in range(len(rows)):
        seen = []
        while rows[at][0] == "go" and at not in seen:
            seen.append(at)
            at = rows[at][1]
        found.append(min(seen[seen.index(at):]) if rows[at][0] == "go" else at)
    return found


def shows_at(body, at):
    row = body.rows()[at]
    return ("hang",) if row[0] == "go" else row[:2]


def by_length(body, other, most):
    """All histories with at most so many elements that can come with both, in order, the shorter ones first."""
    layer = [()]
    for _ in range(most + 1):
        following = []
        for history in layer:
            yield history
            one, two = shown_by_rows(body, history), shown_by_rows(other, history)
            if one == two and one[0] == "ask":
                following += [history + ((one[1], answer),) for answer in range(body.operations()[one[1]])]
        layer = sorted(following)


def first_unlike(body, other, most, within):
    """The first history behind which the bodies show unlike things (or the one does, and does not hang)."""
    for history in by_length(body, other, most):
        one, two = shown_by_rows(body, history), shown_by_rows(other, history)
        if one != two and not (within and one == ("hang",)):
            return (history, one, two)
    return None


def classes(bodies):
    """The class of each row of rest of the bodies: rows are parted round by round by what they show and lead to."""
    rest = [rests(body) for body in bodies]
    kinds = {(k, at): shows_at(body, at) for k, body in enumerate(bodies) for at in rest[k]}
    while True:
        finer = {}
        for (k, at), kind in kinds.items():
            row = bodies[k].rows()[at]
            nexts = row[2] if row[0] == "ask" else ()
            finer[k, at] = (kind, tuple(kinds[k, rest[k][following]] for following in nexts))
        numbers = {kind: number for number, kind in enumerate(sorted(set(finer.values()), key=repr))}
        finer = {at: numbers[kind] for at, kind in finer.items()}
        if len(set(finer.values())) == len(set(kinds.values())):
            return finer
        kinds = finer


def are_alike(one, other):
    """Whether the rows at which the bodies begin are never parted."""
    found = classes([one, other])
    return found[0, rests(one)[one.start]] == found[1, rests(other)[other.start]]


def met_rows(body):
    """The rows of rest that some run comes to, in the order in which they are met, breadth first."""
    rest = rests(body)
    found = [rest[body.start]]
    for at in found:
        row = body.rows()[at]
        for following in row[2] if row[0] == "ask" else ():
            if rest[following] not in found:
                found.append(rest[following])
    return found


def all_pairs(one, other):
    """All pairs of rows of rest at which the bodies stand behind a history that can come with both."""
    rest = (rests(one), rests(other))
    found = [(rest[0][one.start], rest[1][other.start])]
    for i, j in found:
        if shows_at(one, i) == shows_at(other, j) and one.rows()[i][0] == "ask":
            for k, m in zip(one.rows()[i][2], other.rows()[j][2]):
                if (rest[0][k], rest[1][m]) not in found:
                    found.append((rest[0][k], rest[1][m]))
    return sorted(found)


def fault_of(one, other, row):
    """Why a row of pairs of right form is not closed."""
    rest = (rests(one), rests(other))
    there = [tuple(pair) for pair in row]
    for k, (i, j) in enumerate(there):
        if i not in rest[0] or j not in rest[1]:
            return ("pairs", k)
    if (rest[0][one.start], rest[1][other.start]) not in there:
        return ("begin",)
    for k, (i, j) in enumerate(there):
        if shows_at(one, i) != shows_at(other, j):
            return ("shows", k)
        if one.rows()[i][0] == "ask":
            for pair in zip(one.rows()[i][2], other.rows()[j][2]):
                if (rest[0][pair[0]], rest[1][pair[1]]) not in there:
                    return ("step", k, (rest[0][pair[0]], rest[1][pair[1]]))
    return None
