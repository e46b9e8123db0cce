"""Rights: what each function of a work can ask of what is around it, by rules that anybody can go through again."""

from askfurther.forms import is_integer, is_row, is_text_in


def rights(work):
    """For each function the sorted list of its operations."""
    owned = {name: [] for name in work.plan.names}
    for name, operation, index in rights_paper(work):
        owned[name].append(operation)
    return {name: sorted(owned[name]) for name in owned}


def rights_paper(work):
    """The list of tuples (function, operation, index) that justify all rights one behind the other, in rounds."""
    rules = Rules(work.plan)
    owned = rules.nothing_owned()
    paper = []
    fresh = given_by(rules, owned)
    while fresh:
        for name, operation in sorted(fresh):
            paper.append((name, operation, fresh[(name, operation)]))
            owned[name][operation] = True
        fresh = given_by(rules, owned)
    return paper


def rights_fault(work, paper):
    """Why a row of such tuples does not tell just the rights; None if it does."""
    if not is_row(paper):
        return ("paper", -1)
    rules = Rules(work.plan)
    owned = rules.nothing_owned()
    for place, step in enumerate(paper):
        if not is_right_step(rules, owned, step):
            return ("step", place)
        owned[step[0]][step[1]] = True
    lost = given_by(rules, owned)
    if lost:
        return ("lacks",) + min(list(lost))
    return None


class Rules:
    """What is looked up when the rules are used.

    `steps` has for each function the rows that can be come to, by their indexes, sorted. `granted` has for each
    handler the operations that it handles, each with those that its clauses for it ask; `ended` those that its
    clauses of ends ask.
    """

    def __init__(self, plan):
        self.steps = {name: rows_come_to(plan.blocks[name]) for name in plan.names}
        self.granted = {}
        self.ended = {}
        for name, keeper in plan.keepers.items():
            self.granted[name] = {operation: {} for operation in keeper.counts}
            self.ended[name] = {}
            for (state, does), clause in keeper.table.items():
                told = self.ended[name] if does[0] == "end" else self.granted[name][does[1]]
                told.update({line[1]: True for line in clause if line[0] == "ask"})

    def nothing_owned(self):
        """For each function no operation yet."""
        return {name: {} for name in self.steps}


def rows_come_to(rows):
    """The rows that can be come to from the first one by any nexts, by their indexes, sorted."""
    found = {0: True}
    waiting = [0]
    while waiting:
        for index in nexts_of_step(rows[waiting.pop()]):
            if index not in found:
                found[index] = True
                waiting.append(index)
    return {index: rows[index] for index in sorted(found)}


def nexts_of_step(row):
    """The indexes of the rows at which a function may go on behind this one."""
    if row[0] == "go":
        return [row[1]]
    if row[0] == "ask":
        return list(row[2])
    if row[0] == "end":
        return []
    return [index for word, index in row[-1]]


def given_by(rules, owned):
    """The pairs of a function and an operation that a rule gives and that are not owned, with their least indexes."""
    found = {}
    for name in rules.steps:
        for index, row in rules.steps[name].items():
            for operation in operations_given(rules, owned, row):
                if operation not in owned[name]:
                    found.setdefault((name, operation), index)
    return found


def operations_given(rules, owned, row):
    """The operations that a row gives to its function, told which ones the functions own so far."""
    if row[0] == "ask":
        return {row[1]: True}
    if row[0] == "call":
        return owned[row[1]]
    if row[0] != "handle":
        return {}
    granted = rules.granted[row[1]]
    given = dict(rules.ended[row[1]])
    for operation in owned[row[2]]:
        given.update(granted.get(operation, {operation: True}))
    return given


def is_right_step(rules, owned, step):
    """Whether it is a tuple of a function, an operation that it does not own so far, and a row that gives this."""
    if not is_row(step) or len(step) != 3 or not is_text_in(step[0], rules.steps):
        return False
    if not is_integer(step[2]) or step[2] not in rules.steps[step[0]]:
        return False
    row = rules.steps[step[0]][step[2]]
    return is_text_in(step[1], operations_given(rules, owned, row)) and step[1] not in owned[step[0]]
