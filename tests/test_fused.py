"""Section 7: one handler of two that stand around one another."""

import itertools
import random
import time
import unittest

from askfurther.bodies import Body, shown
from askfurther.errors import BadHandler, Mismatch
from askfurther.fusing import fused, handled
from askfurther.handlers import Handler, passing
from askfurther.likeness import least, parted
from askfurther.reach import answers, met, unmet, way_to
from tests.checks import Checks
from tests.models import histories, random_rows
from tests.within import Within, random_parts

WORDS = ["x", "y"]
# Operations of the drawn bodies, and what the drawn handlers handle and ask: alike in all of them.
COUNTS = {"a": 2, "b": 1, "c": 0, "d": 2}


def some(chance, least_many):
    names = chance.sample(sorted(COUNTS), chance.randrange(least_many, len(COUNTS) + 1))
    return {name: COUNTS[name] for name in sorted(names)}


def one_state(handles, further, rows, ends=()):
    """A handler with the one state s and the same rows for each operation and each of these words."""
    clauses = {("s", operation): rows for operation in handles}
    return Handler(handles, further, "s", clauses, {("s", word): told for word, told in dict(ends).items()})


class Fused(Checks):
    def holds(self, handlers, body, most):
        """The body within the fused handlers, the innermost one first, put together from either side."""
        left, right = handlers[0], handlers[-1]
        for handler in handlers[1:]:
            left = fused(left, handler)
        for handler in handlers[-2::-1]:
            right = fused(handler, right)
        whole = body
        for handler in handlers:
            whole = handled(handler, whole)
        for handler in (left, right):
            self.assertIs(type(handler), Handler)
            self.assertIsNone(parted(handled(handler, body), whole))
            self.assertEqual(least(handled(handler, body)), least(whole))
        model = Within(handlers, body)
        for history, told in histories(model, model.shown, most):
            self.assertEqual(shown(handled(left, body), history), told)
            self.assertEqual(shown(handled(right, body), history), told)
        return left

    def test_drawn_pairs(self):
        chance = random.Random(73)
        shows = set()
        for _ in range(300):
            body = Body(COUNTS, random_rows(chance, COUNTS, 6, WORDS), start=chance.randrange(6))
            one = Handler(*random_parts(chance, some(chance, 1), some(chance, 1), WORDS, ["p", "q"], 4))
            two = Handler(*random_parts(chance, some(chance, 1), some(chance, 0), WORDS, ["p", "q"], 4))
            both = self.holds([one, two], body, 4)
            self.assertEqual(both.handled(), {**one.handled(), **two.handled()})
            asks = {name: many for name, many in one.further().items() if name not in two.handled()}
            self.assertEqual(both.further(), {**asks, **two.further()})
            shows.update(told[0] for _, told in histories(body, Within([one, two], body).shown, 0))
        self.assertEqual(shows, {"ask", "end", "hang"})

    def test_drawn_threes(self):
        chance = random.Random(74)
        for _ in range(60):
            body = Body(COUNTS, random_rows(chance, COUNTS, 5, WORDS), start=chance.randrange(5))
            handlers = [Handler(*random_parts(chance, some(chance, 1), some(chance, 1), WORDS, ["p", "q"], 3))
                        for _ in range(3)]
            both = self.holds(handlers, body, 3)
            # Alike states and rows are told as one, so that what is put together in any way is even equal.
            self.assertEqual(both, fused(handlers[0], fused(handlers[1], handlers[2])))
            self.assertEqual(both, fused(passing(), fused(both, passing())))

    def test_the_outer_one_handles_what_the_inner_one_asks(self):
        inner = one_state({"a": 2}, {"b": 2, "c": 1}, [("ask", "b", [1, 2]), ("ask", "c", [2]), ("answer", 1, "s")])
        clauses = {("s", "b"): [("ask", "d", [1]), ("answer", 0, "t")], ("t", "b"): [("answer", 1, "s")]}
        outer = Handler({"b": 2}, {"d": 1}, "s", clauses, {("t", "y"): [("finish", "odd")], ("s", "y"): [("finish", "even")]})
        body = Body({"a": 2}, [("ask", "a", (1, 2)), ("end", "x"), ("ask", "a", (3, 4)), ("end", "x"), ("end", "y")])
        both = self.holds([inner, outer], body, 5)
        self.assertEqual((both.handled(), both.further()), ({"a": 2, "b": 2}, {"c": 1, "d": 1}))
        self.assertEqual(shown(handled(both, body), [("d", 0), ("c", 0)]), ("end", "even"))
        one = Body({"a": 2}, [("ask", "a", (1, 1)), ("end", "y")])
        self.assertEqual(shown(handled(both, one), [("d", 0), ("c", 0)]), ("end", "odd"))
        # The outer one handles what the body asks itself, too.
        self.holds([inner, outer], Body({"a": 2, "b": 2}, [("ask", "a", (1, 1)), ("ask", "b", (0, 2)), ("end", "y")]), 6)

    def test_both_handle_the_same_operation(self):
        inner = one_state({"a": 2}, {"a": 2}, [("ask", "a", [1, 2]), ("answer", 1, "s"), ("answer", 0, "s")])
        outer = one_state({"a": 2}, {"a": 2}, [("ask", "a", [1, 1]), ("answer", 0, "s")])
        body = Body({"a": 2}, [("ask", "a", (1, 2)), ("end", "x"), ("ask", "a", (0, 2))])
        for handlers in itertools.product([inner, outer], repeat=3):
            both = self.holds(handlers, body, 4)
            self.assertEqual((both.handled(), both.further()), ({"a": 2}, {"a": 2}))

    def test_ends_and_finish(self):
        body = Body({"a": 0}, [("ask", "a", ())])
        over = Body({}, [("end", "x")])
        inner = one_state({"a": 0}, {}, [("finish", "x")], {"x": [("finish", "y")]})
        words = []
        for told in ({}, {"x": [("finish", "p")]}, {"y": [("finish", "q")]}, {"x": [("finish", "y")], "y": [("finish", "x")]}):
            outer = one_state({}, {}, [], told)
            both = [self.holds([inner, outer], one, 1) for one in (body, over)]
            words.append(shown(handled(both[0], body), [])[1] + shown(handled(both[1], over), [])[1])
        # The inner clause finishes with x, the end x with y: only then the outer one's clause of ends comes.
        self.assertEqual(words, ["xy", "py", "xq", "yx"])

    def test_where_the_outer_one_ends_all_ends(self):
        inner = one_state({"a": 1}, {"b": 1}, [("ask", "b", [1]), ("answer", 0, "s")], {"out": [("finish", "no")]})
        outer = one_state({"b": 1}, {}, [("finish", "out")], {"out": [("finish", "no")]})
        body = Body({"a": 1}, [("ask", "a", [1]), ("end", "x")])
        self.assertEqual(shown(handled(self.holds([inner, outer], body, 1), body), []), ("end", "out"))

    def test_clauses_of_ends_that_ask_what_the_outer_one_handles(self):
        inner = one_state({}, {"b": 2}, [], {"x": [("ask", "b", [0, 1]), ("finish", "y")]})
        clauses = {("s", "b"): [("ask", "c", [1]), ("answer", 0, "t")], ("t", "b"): [("ask", "c", [1]), ("answer", 1, "u")],
                   ("u", "b"): [("go", 0)]}
        outer = Handler({"b": 2}, {"c": 1}, "s", clauses, {("u", "y"): [("ask", "c", [1]), ("finish", "z")]})
        body = Body({}, [("end", "x")])
        both = self.holds([inner, outer], body, 4)
        self.assertEqual(shown(handled(both, body), [("c", 0)] * 3), ("end", "z"))

    def test_clauses_that_hang_between_the_two(self):
        inner = one_state({"a": 1}, {"b": 1}, [("ask", "b", [0])])
        outer = one_state({"b": 1}, {}, [("answer", 0, "s")])
        body = Body({"a": 1}, [("ask", "a", [1]), ("end", "x")])
        self.assertEqual(shown(handled(self.holds([inner, outer], body, 1), body), []), ("hang",))

    def test_passing_changes_nothing(self):
        chance = random.Random(75)
        for _ in range(50):
            body = Body(COUNTS, random_rows(chance, COUNTS, 6, WORDS))
            handler = Handler(*random_parts(chance, some(chance, 1), some(chance, 1), WORDS, ["p", "q"], 4))
            for both in (fused(handler, passing()), fused(passing(), handler)):
                self.assertIsNone(parted(handled(both, body), handled(handler, body)))
                self.assertEqual((both.handled(), both.further()), (handler.handled(), handler.further()))
        self.assertEqual(handled(fused(passing(), passing()), body).operations(), COUNTS)

    def test_arguments_by_name_and_kinds(self):
        inner = one_state({"z": 1, "a": 2}, {"y": 2, "b": 1}, [("ask", "y", (0, 0))], {"x": [("finish", "y")]})
        both = fused(inner=inner, outer=one_state({"b": 1}, {"c": 0}, [("ask", "c", ())]))
        self.assertEqual(both, fused(inner, one_state({"b": 1}, {"c": 0}, [("ask", "c", ())])))
        self.assertEqual((list(both.handled()), list(both.further())), (["a", "b", "z"], ["c", "y"]))
        self.assertEqual(both.states(), sorted({at[0] for at in both.clauses()}))
        for rows in [*both.clauses().values(), *both.ends().values()]:
            self.assertIs(type(rows), tuple)
            for row in rows:
                self.assertIs(type(row), tuple)
                self.assertFalse(any(isinstance(part, list) for part in row))

    def test_mismatch(self):
        rows = [("go", 0)]
        for places in itertools.combinations(range(4), 2):
            tables = [{"b": 1, "d": 0}, {"b": 1, "e": 0}, {"b": 1, "f": 0}, {"b": 1, "g": 0}]
            for operation in ("c", "a", "z"):
                told = [dict(table) for table in tables]
                told[places[0]][operation], told[places[1]][operation] = 3, 2
                if places in ((0, 1), (2, 3)):
                    self.refused(BadHandler, lambda: one_state(told[places[0]], told[places[1]], rows), "further")
                    continue
                inner, outer = one_state(told[0], told[1], rows), one_state(told[2], told[3], rows)
                self.refused(Mismatch, lambda: fused(inner, outer), operation)
        inner, outer = one_state({"c": 1, "a": 1}, {"b": 1}, rows), one_state({"b": 2}, {"c": 2}, rows)
        self.refused(Mismatch, lambda: fused(inner, outer), "b")


class Large(Checks):
    def large(self, chance, names, further, words):
        """A handler of 8 states, 8 operations, and clauses of 20 rows."""
        states = ["s" + letter for letter in "abcdefgh"]
        clauses, ends = {}, {}
        for state in states:
            for name in [names + letter for letter in "abcdefgh"] + words:
                rows = [("ask", further + chance.choice("abcdefgh"), [chance.randrange(20) for _ in range(6)]) for _ in range(16)]
                if name in words:
                    ends[state, name] = rows + [("finish", chance.choice(words)) for _ in range(4)]
                else:
                    given = [("answer", chance.randrange(6), chance.choice(states)) for _ in range(3)]
                    clauses[state, name] = rows + given + [("finish", chance.choice(words))]
        counts = [{part + letter: 6 for letter in "abcdefgh"} for part in (names, further)]
        return Handler(*counts, "sa", clauses, ends)

    def test_bounds(self):
        chance = random.Random(76)
        inner, outer = self.large(chance, "a", "b", WORDS), self.large(chance, "b", "c", WORDS)
        begin = time.monotonic()
        both = fused(inner, outer)
        self.assertLess(time.monotonic() - begin, 20)
        self.assertGreater(len(both.states()), 8)
        self.assertEqual(len(both.handled()), 16)
        self.refused(BadHandler, lambda: Handler(both.handled(), both.further(), both.start, both.clauses(), both.ends()), "handled")
        body = Body({"aa": 6, "bb": 6}, [("ask", "aa", [1, 0, 1, 0, 1, 2]), ("ask", "bb", [0, 1, 0, 1, 2, 0]), ("end", "x")])
        for _ in range(20):
            history = ()
            shows = Within([inner, outer], body).shown(history)
            while shows[0] == "ask" and len(history) < 30:
                self.assertEqual(Within([both], body).shown(history), shows)
                history += ((shows[1], chance.randrange(6)),)
                shows = Within([inner, outer], body).shown(history)
            self.assertEqual(Within([both], body).shown(history), shows)
        self.assertEqual((both[both.start, "aa"], both.start in both.states()), (both.clauses()[both.start, "aa"], True))

    def test_what_is_returned_may_be_passed_again(self):
        chance = random.Random(77)
        for _ in range(10):
            handlers = [Handler(*random_parts(chance, COUNTS, {"a": 2, "e": 2}, WORDS, ["p", "q", "r", "s", "t"], 4))
                        for _ in range(2)]
            both = fused(*handlers)
            if len(both.states()) <= 8:
                continue
            self.refused(BadHandler, lambda: Handler(both.handled(), both.further(), both.start, both.clauses(), both.ends()),
                         "clauses")
            body = Body(COUNTS, random_rows(chance, COUNTS, 6, WORDS))
            again = fused(passing(), fused(both, passing()))
            self.assertIsNone(parted(handled(again, body), handled(both, body)))
            self.assertIsNone(parted(handled(fused(both, both), body), handled(both, handled(both, body))))
            self.assertEqual(unmet(both), [])
            self.assertEqual(answers(both, "a"), answers(again, "a"))
            self.assertEqual(max(len(way_to(both, state)) for state in both.states()),
                             max(len(way_to(again, state)) for state in again.states()))
            self.assertEqual(len(met(both, body)[0]), len(met(again, body)[0]))


if __name__ == "__main__":
    unittest.main()
