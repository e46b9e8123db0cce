"""Section 9: what a handler can come to."""

import itertools
import random
import unittest

from askfurther.bodies import Body
from askfurther.errors import NoOperation, NoState
from askfurther.fusing import handled
from askfurther.handlers import Handler, passing
from askfurther.likeness import parting_handler
from askfurther.reach import answers, met, unmet, way_to
from tests.checks import Checks
from tests.models import random_rows
from tests.odd import NO_NAMES
from tests.within import Within, random_parts

WORDS = ["x", "y"]
TABLES = [{"a": 2, "b": 1, "c": 0}, {"a": 2, "d": 2}, {"b": 1, "c": 0}]


def gives(handler, state, operation):
    """The pairs (answer, state) that the clause can come to, by some answers from further out."""
    rows = handler[state, operation]
    come, found = [0], set()
    for at in come:
        if rows[at][0] == "answer":
            found.add(rows[at][1:])
        nexts = {"ask": lambda row: row[2], "go": lambda row: row[1:]}.get(rows[at][0], lambda row: ())(rows[at])
        come += [following for following in dict.fromkeys(nexts) if following not in come]
    return found


def ways(handler):
    """For each state that can come the least row of operations: all rows are gone through in order."""
    found = {}
    for many in range(len(handler.states())):
        for row in itertools.product(sorted(handler.handled()), repeat=many):
            states = {handler.start}
            for operation in row:
                states = {after for state in states for _, after in gives(handler, state, operation)}
            for state in states:
                found.setdefault(state, row)
    return found


class Reach(Checks):
    def holds(self, handler):
        told = ways(handler)
        for state in handler.states():
            self.assertEqual(way_to(handler, state), told.get(state))
        self.assertEqual(unmet(handler), [state for state in handler.states() if state not in told])
        for operation in handler.handled():
            given = {k for state in told for k, _ in gives(handler, state, operation)}
            self.assertEqual(answers(handler, operation), sorted(given))
        return told

    def test_drawn(self):
        chance = random.Random(91)
        lengths, lost = set(), 0
        for _ in range(400):
            handles = {"b": 2, "a": 1, "c": 3} if chance.random() < 0.3 else {"b": 2, "a": 1}
            states = ["p", "q", "r", "s", "t"][:chance.randrange(1, 6)]
            handler = Handler(*random_parts(chance, handles, {"e": 2}, WORDS, states, 3))
            told = self.holds(handler)
            lengths.update(len(row) for row in told.values())
            lost += len(told) < len(handler.states())
        self.assertLessEqual({0, 1, 2, 3}, lengths)
        self.assertGreater(lost, 30)

    def test_first_of_the_ways_with_fewest_operations(self):
        # Behind "a" come p and q alike: the way by q and "a" is ahead of that by p and "b".
        rows = [("ask", "e", (1, 2)), ("answer", 0, "p"), ("answer", 0, "q")]
        clauses = {("s", "a"): rows, ("s", "b"): [("answer", 0, "s")]}
        for state, operation in itertools.product("pqrt", "ab"):
            clauses[state, operation] = [("answer", 0, state)]
        clauses["p", "b"] = clauses["q", "a"] = [("answer", 0, "r")]
        handler = Handler({"a": 1, "b": 1}, {"e": 2}, "s", clauses, {})
        self.holds(handler)
        self.assertEqual((way_to(handler, "r"), way_to(handler, "s"), way_to(handler, "t")), (("a", "a"), (), None))
        for first, second in itertools.permutations("pq"):
            clauses["s", "a"] = [("ask", "e", (1, 2)), ("answer", 0, first), ("answer", 0, second)]
            clauses["p", "b"], clauses["q", "a"] = [("answer", 0, "r")], [("answer", 0, "t")]
            clauses["r", "a"], clauses["t", "b"] = [("answer", 0, "u")], [("answer", 0, "u")]
            clauses["u", "a"] = clauses["u", "b"] = [("answer", 0, "s")]
            handler = Handler({"a": 1, "b": 1}, {"e": 2}, "s", clauses, {})
            self.holds(handler)
            self.assertEqual(way_to(handler, "u"), ("a", "a", "b"))

    def test_only_what_a_clause_comes_to_by_some_answer(self):
        clauses = {("s", "a"): [("ask", "e", ()), ("answer", 1, "t")], ("s", "b"): [("go", 2), ("answer", 1, "t"), ("answer", 0, "s")],
                   ("t", "a"): [("answer", 0, "s")], ("t", "b"): [("answer", 1, "s")]}
        handler = Handler({"a": 2, "b": 2}, {"e": 0}, "s", clauses, {("t", "x"): [("finish", "y")]})
        self.holds(handler)
        self.assertEqual((unmet(handler), answers(handler, "a"), answers(handler, "b")), (["t"], [], [0]))
        # A state of the ends alone cannot come either, nor one that handles nothing but the start.
        self.assertEqual(unmet(Handler({}, {}, "s", {}, {("t", "x"): [("go", 0)], ("s", "x"): [("go", 0)]})), ["t"])
        self.assertEqual((unmet(passing()), way_to(passing(), "a")), ([], ()))

    def test_no_state(self):
        handler = Handler({"a": 1}, {}, "s", {("s", "a"): [("go", 0)]}, {})
        for state in NO_NAMES + ["a", "t", "ss"]:
            error = self.refused(NoState, lambda: way_to(handler, state), state)
            self.assertIs(error.state, state)
        self.assertEqual(way_to(handler=handler, state="s"), ())

    def test_no_operation(self):
        handler = Handler({"a": 1}, {"e": 1}, "s", {("s", "a"): [("go", 0)]}, {})
        for operation in NO_NAMES + ["s", "e", "aa"]:
            error = self.refused(NoOperation, lambda: answers(handler, operation), operation)
            self.assertIs(error.operation, operation)
        self.assertEqual(answers(handler=handler, operation="a"), [])
        self.assertEqual(unmet(handler=handler), [])

    def test_what_is_told_may_be_changed(self):
        handler = Handler({"a": 1}, {}, "s", {("s", "a"): [("answer", 0, "s")], ("t", "a"): [("go", 0)]}, {})
        for call in (unmet, lambda handler: answers(handler, "a")):
            told = call(handler)
            self.assertIs(type(told), list)
            call(handler).clear()
            self.assertEqual(call(handler), told)

    def test_handlers_of_many_states(self):
        one = Body({"a": 1, "b": 1}, [("ask", "ab"[at % 2], [(at + 1) % 400]) for at in range(400)])
        other = Body({"a": 1, "b": 1}, one.rows()[:399] + [("end", "x")])
        handler = parting_handler(one, other)
        self.assertEqual((len(handler.states()), unmet(handler)), (400, []))
        self.assertEqual(sorted(len(way_to(handler, state)) for state in handler.states()), list(range(400)))
        self.assertEqual(max([way_to(handler, state) for state in handler.states()], key=len), tuple(("ab" * 200)[:399]))
        self.assertEqual((answers(handler, "a"), answers(handler, "b")), ([0], [0]))


class Met(Checks):
    def test_drawn(self):
        chance = random.Random(92)
        seen = [0, 0]
        for _ in range(400):
            body = Body(TABLES[0], random_rows(chance, TABLES[0], 6, WORDS), start=chance.randrange(6))
            handler = Handler(*random_parts(chance, {"a": 2, "c": 0, "d": 2}, chance.choice(TABLES), WORDS, ["p", "q", "r"], 3))
            begun = Within([handler], body).walk().begun
            told = met(handler, body)
            self.assertEqual(told, (sorted({at[2:] for at in begun if at[1] == "ask"}), sorted({at[2:] for at in begun if at[1] == "end"})))
            self.assertEqual((type(told), type(told[0]), type(told[1])), (tuple, list, list))
            seen = [seen[0] + len(told[0]), seen[1] + len(told[1])]
        self.assertGreater(min(seen), 20)

    def test_both_lists_are_sorted(self):
        names = ["d", "b", "e", "a", "c"]
        body = Body({"pick": 5, **{name: 1 for name in names}}, [("ask", "pick", [1, 2, 3, 4, 5])]
                    + [("ask", name, [6 + at]) for at, name in enumerate(names)] + [("end", name) for name in names])
        clauses = {("s", name): [("answer", 0, "t" if name in "bd" else "s")] for name in names}
        clauses.update({("t", name): [("go", 0)] for name in names})
        ends = {(state, name): [("go", 0)] for state in "ts" for name in names}
        handler = Handler({name: 1 for name in names}, {}, "s", clauses, ends)
        self.assertEqual(met(handler, body), ([("s", name) for name in "abcde"],
                                              [("s", "a"), ("s", "c"), ("s", "e"), ("t", "b"), ("t", "d")]))

    def test_words_and_operations_of_the_same_name(self):
        handler = Handler({"x": 1}, {}, "s", {("s", "x"): [("answer", 0, "t")], ("t", "x"): [("finish", "x")]},
                          {("t", "x"): [("finish", "y")], ("s", "x"): [("go", 0)]})
        self.assertEqual(met(handler, Body({"x": 1}, [("ask", "x", [1]), ("end", "x")])), ([("s", "x")], [("t", "x")]))
        self.assertEqual(met(handler, Body({"x": 1}, [("ask", "x", [0])])), ([("s", "x"), ("t", "x")], []))
        self.assertEqual(met(handler=handler, body=Body({}, [("end", "x")])), ([], [("s", "x")]))
        self.assertEqual(met(passing(), Body({}, [("end", "x")])), ([], []))
        # The word with which a clause finishes begins no clause of ends of the same handler.
        self.assertEqual(handled(handler, Body({"x": 1}, [("ask", "x", [0])])).words(), ["x"])


if __name__ == "__main__":
    unittest.main()
