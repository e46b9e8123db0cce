"""Section 14: rights, and papers of them."""

import random

from askfurther.handlers import Handler
from askfurther.rights import rights, rights_fault, rights_paper
from askfurther.tables import entries, leaves
from askfurther.works import Work
from tests.checks import Checks
from tests.odd import DICTS, INTEGERS, NO_INTEGERS, NO_NAMES, NO_ROWS, NOTHINGS, ROWS
from tests.test_tables import WORK, drawn, rich


def come_to(rows):
    """The indexes of the rows that can be come to from row 0 by any nexts."""
    found = [0]
    for at in found:
        row = rows[at]
        nexts = {"go": row[1:], "ask": row[2] if row[0] == "ask" else (), "end": ()}.get(row[0])
        if nexts is None:
            nexts = [index for _, index in row[-1]]
        found += [index for index in dict.fromkeys(nexts) if index not in found]
    return found


def gives(work, there, name, index):
    """The operations that a row gives to its function by the four rules, told which pairs stand there."""
    row = dict(work.functions())[name][index]
    if row[0] == "ask":
        return {row[1]}
    if row[0] == "call":
        return {operation for function, operation in there if function == row[1]}
    if row[0] != "handle":
        return set()
    handler = work.handlers()[row[1]]
    has = {operation for function, operation in there if function == row[2]}
    found = has - set(handler.handled())
    for (_, operation), clause in handler.clauses().items():
        if operation in has:
            found |= {line[1] for line in clause if line[0] == "ask"}
    for clause in handler.ends().values():
        found |= {line[1] for line in clause if line[0] == "ask"}
    return found


def justified(work, there):
    """All pairs that a rule gives at once, with the least index for each one."""
    found = {}
    for name, rows in work.functions():
        for index in sorted(come_to(rows)):
            for operation in gives(work, there, name, index):
                found.setdefault((name, operation), index)
    return found


def paper_of(work):
    there, told = set(), []
    while True:
        fresh = sorted((at, index) for at, index in justified(work, there).items() if at not in there)
        if not fresh:
            return told
        told += [(*at, index) for at, index in fresh]
        there |= {at for at, _ in fresh}


def fault_of(work, paper):
    there = set()
    for k, (name, operation, index) in enumerate(paper):
        if (name, operation) in there or index not in come_to(dict(work.functions())[name]):
            return ("step", k)
        if operation not in gives(work, there, name, index):
            return ("step", k)
        there.add((name, operation))
    lost = sorted(set(justified(work, there)) - there)
    return ("lacks", *lost[0]) if lost else None


class Rights(Checks):
    def holds(self, work):
        paper = rights_paper(work)
        self.assertEqual(paper, paper_of(work))
        self.assertIsNone(rights_fault(work, paper))
        told = {name: sorted({step[1] for step in paper if step[0] == name}) for name, _ in work.functions()}
        self.assertEqual(rights(work), told)
        return paper

    def test_drawn(self):
        chance = random.Random(171)
        found, rounds = set(), set()
        for number in range(500):
            work = rich(chance) if number % 2 else drawn(chance)
            paper = self.holds(work)
            rounds.add(len(paper))
            for _ in range(4):
                other = list(paper)
                for _ in range(chance.randrange(1, 3)):
                    self.change(chance, work, other)
                told = rights_fault(work, other)
                self.assertEqual(told, fault_of(work, other))
                self.assertEqual(rights_fault(work, tuple(list(step) for step in other)), told)
                found.add(told and told[0])
        self.assertEqual(found, {None, "step", "lacks"})
        self.assertGreater(max(rounds), 8)

    def change(self, chance, work, paper):
        """A step left out, doubled, put ahead or elsewhere, with another row, operation or function."""
        names = [name for name, _ in work.functions()]
        if not paper:
            paper.append((chance.choice(names), "a", 0))
            return
        at = chance.randrange(len(paper))
        name, operation, index = paper[at]
        what = chance.randrange(6)
        if what == 0:
            del paper[at]
        elif what == 1:
            paper.insert(chance.randrange(len(paper) + 1), paper[at])
        elif what == 2:
            paper.insert(chance.randrange(len(paper)), paper.pop(at))
        elif what == 3:
            paper[at] = (name, operation, chance.randrange(len(dict(work.functions())[name])))
        elif what == 4:
            paper[at] = (name, chance.choice("abcd"), index)
        else:
            other = chance.choice(names)
            paper[at] = (other, operation, min(index, len(dict(work.functions())[other]) - 1))

    def test_what_is_asked_is_among_the_rights(self):
        chance = random.Random(172)
        more = 0
        for _ in range(200):
            work = rich(chance)
            self.assertLessEqual(set(leaves(work)[0]), set(rights(work)["main"]))
            more += set(leaves(work)[0]) != set(rights(work)["main"])
        self.assertGreater(more, 0)

    def test_rows_that_are_come_to_by_any_nexts(self):
        functions = [("main", [("call", "f", {"never": 2}), ("ask", "a", (0,)), ("ask", "b", (3,)), ("end", "x")]),
                     ("f", [("go", 2), ("ask", "c", (0,)), ("end", "x")])]
        work = Work({"a": 1, "b": 1, "c": 1}, {}, functions)
        # Row 2 of main is come to by the dict, though f never ends with this word; row 1 of f by nothing.
        self.assertEqual(rights(work), {"main": ["b"], "f": []})
        self.assertEqual((leaves(work)[0], entries(work)), ([], [("f", ()), ("main", ())]))
        self.assertEqual(rights_fault(work, [("main", "b", 2), ("f", "c", 1)]), ("step", 1))
        self.holds(work)

    def test_rules_of_handle(self):
        rows = [("go", 0), ("ask", "ring", (0,))]
        handler = Handler({"a": 1, "b": 1}, {"ring": 1, "tell": 1, "over": 1}, "s", {
            ("s", "a"): rows, ("s", "b"): [("answer", 0, "s")], ("t", "a"): [("answer", 0, "s")], ("t", "b"): [("ask", "tell", (0,))]},
            {})
        ends = {("s", "x"): [("go", 0), ("ask", "over", (0,))]}
        with_ends = Handler(handler.handled(), handler.further(), "s", handler.clauses(), ends)
        counts = {"a": 1, "b": 1, "c": 1}
        for inner, told in ((("ask", "a", (0,)), ["ring"]), (("ask", "b", (0,)), ["tell"]), (("ask", "c", (0,)), ["c"]), (("end", "x"), [])):
            for held, more in ((handler, []), (with_ends, ["over"])):
                work = Work(counts, {"p": held}, [("main", [("handle", "p", "f", {})]), ("f", [inner])])
                self.assertEqual(rights(work)["main"], sorted(told + more))
                self.holds(work)

    def test_the_example(self):
        self.assertEqual(rights(work=WORK), {"main": ["coin", "ring"], "walk": ["coin", "tick"]})
        paper = rights_paper(work=WORK)
        self.assertEqual(paper, [("main", "coin", 1), ("walk", "coin", 0), ("walk", "tick", 2), ("main", "ring", 0)])
        self.assertEqual(list(rights(WORK)), ["main", "walk"])
        self.assertEqual(rights_fault(paper=paper[1:], work=WORK), ("lacks", "main", "coin"))
        paper.clear()
        rights(WORK).clear()
        rights(WORK)["main"].clear()
        self.assertEqual((len(rights_paper(WORK)), len(rights(WORK)["main"])), (4, 2))

    def test_justified_by_another_row(self):
        right = [("walk", "coin", 0), ("main", "coin", 0), ("walk", "tick", 2), ("main", "ring", 0)]
        self.assertIsNone(rights_fault(WORK, right))
        self.assertEqual(rights_fault(WORK, [("walk", "coin", 0), ("walk", "coin", 3)]), ("step", 1))
        self.assertEqual(rights_fault(WORK, [("walk", "coin", 3)]), ("step", 0))
        self.assertEqual(rights_fault(WORK, [("main", "coin", 0)]), ("step", 0))
        self.assertEqual(rights_fault(WORK, right[:1]), ("lacks", "main", "coin"))
        self.assertEqual(rights_fault(WORK, right[:2]), ("lacks", "walk", "tick"))
        self.assertEqual(rights_fault(WORK, right[:3]), ("lacks", "main", "ring"))
        self.assertEqual(rights_fault(WORK, []), ("lacks", "main", "coin"))
        self.assertEqual(rights_fault(WORK, right[::-1]), ("step", 0))

    def test_what_is_no_row_and_no_step(self):
        for paper in NO_ROWS:
            self.assertEqual(rights_fault(WORK, paper), ("paper", -1))
        right = rights_paper(WORK)
        wrong = NOTHINGS + INTEGERS + ROWS + DICTS + ["main", ("main", "coin"), ("main", "coin", 1, 1), ("main", "coin", 4), ("main", "coin", -1),
                                                      ("main", "coin", -3), ("main", "tick", 0), ("main", "coin", True), ("coin", "main", 1),
                                                      {"main": "coin"}, ("walk", "coin", 1)]
        wrong += [(name, "coin", 1) for name in NO_NAMES] + [["main", name, 1] for name in NO_NAMES] + [("main", "coin", index) for index in NO_INTEGERS]
        for step in wrong:
            self.assertEqual(rights_fault(WORK, [step]), ("step", 0))
            self.assertEqual(rights_fault(WORK, (*right[1:3], step, *right)), ("step", 2))


if __name__ == "__main__":
    import unittest
    unittest.main()
