"""Section 7: bodies within handlers."""

import random
import unittest
from unittest import mock

from askfurther.bodies import Body, shown
from askfurther.errors import BadBody, Mismatch, TooMany
from askfurther.fusing import handled
from askfurther.handlers import Handler, passing
from askfurther.likeness import least, parted
from askfurther.reach import met
from tests.checks import Checks
from tests.models import histories, random_rows, shown_by_rows
from tests.within import Within, random_parts

WORDS = ["x", "y"]
FAIL = {("a", "fail"): [("finish", "failed")]}


def ring(many, operation="a"):
    """A body that asks for ever."""
    return Body({operation: 1}, [("ask", operation, [(at + 1) % many]) for at in range(many)])


def turning(states, size, last=None):
    """A handler of "a" that changes its state at each ask, each of its clauses having so many rows, but the last one."""
    names = ["s" + "abcdefgh"[at] for at in range(states)]
    clauses = {}
    for at, name in enumerate(names):
        rows = last if last is not None and at == states - 1 else size
        end = ("answer", 0, names[(at + 1) % states])
        clauses[name, "a"] = [("go", row + 1) for row in range(rows - 1)] + [end]
    return Handler({"a": 1}, {}, "sa", clauses, {})


class Handled(Checks):
    def holds(self, handlers, body, most):
        """What the whole shows behind all histories up to a length, handler by handler from the innermost one."""
        whole = body
        for handler in handlers:
            whole = handled(handler, whole)
        self.assertIs(type(whole), Body)
        model = Within(handlers, body)
        for history, told in histories(model, model.shown, most):
            self.assertEqual(shown(whole, history), told)
            self.assertEqual(shown_by_rows(whole, history), told)
        return whole

    def test_let_by(self):
        body = Body({"coin": 2, "fail": 0}, [("ask", "coin", (1, 2)), ("ask", "fail", ()), ("end", "good")])
        whole = self.holds([passing()], body, 4)
        self.assertEqual((parted(whole, body), whole.operations()), (None, body.operations()))
        stop = Handler({"fail": 0}, {}, "a", FAIL, {})
        whole = self.holds([stop], body, 4)
        self.assertEqual((whole.operations(), whole.words(), whole.asked()), ({"coin": 2}, ["failed", "good"], ["coin"]))

    def test_operations(self):
        body = Body({"a": 1, "b": 2, "c": 3}, [("end", "x")])
        parts = ({"a": 1, "d": 2}, {"a": 1, "e": 0}, "s", {("s", "a"): [("go", 0)], ("s", "d"): [("go", 0)]}, {})
        self.assertEqual(handled(Handler(*parts), body).operations(), {"a": 1, "b": 2, "c": 3, "e": 0})
        again = Body({"c": 3, "b": 2, "a": 1}, [("end", "x")])
        self.assertEqual(list(handled(Handler(*parts), again).operations()), ["a", "b", "c", "e"])

    def test_what_a_clause_asks_is_not_handled_by_the_same_handler(self):
        handler = Handler({"a": 2}, {"a": 2}, "s", {("s", "a"): [("ask", "a", [2, 1]), ("answer", 0, "s"), ("answer", 1, "s")]}, {})
        body = Body({"a": 2}, [("ask", "a", (1, 2)), ("end", "x"), ("end", "y")])
        whole = self.holds([handler], body, 4)
        self.assertEqual(shown(whole, [("a", 0)]), ("end", "y"))
        self.holds([handler, handler, handler], body, 4)

    def test_ends_for_the_state_at_the_end(self):
        clauses = {("s", "a"): [("answer", 0, "t")], ("t", "a"): [("answer", 0, "u")], ("u", "a"): [("answer", 0, "u")]}
        ends = {("t", "x"): [("ask", "b", [1, 0]), ("finish", "y")], ("u", "x"): [("go", 0)], ("s", "y"): [("finish", "no")]}
        handler = Handler({"a": 1}, {"b": 2}, "s", clauses, ends)
        shows = []
        for many in range(4):
            rows = [("ask", "a", [at + 1]) for at in range(many)] + [("end", "x")]
            shows.append(shown(self.holds([handler], Body({"a": 1}, rows), 5), []))
        self.assertEqual(shows, [("end", "x"), ("ask", "b"), ("hang",), ("hang",)])
        # A word with which a clause finishes is not looked up among the ends of the same handler.
        again = Handler({}, {}, "s", {}, {("s", "x"): [("finish", "y")], ("s", "y"): [("finish", "x")]})
        self.assertEqual(shown(handled(again, Body({}, [("end", "x")])), []), ("end", "y"))
        self.assertEqual(shown(self.holds([again, again], Body({}, [("end", "x")]), 1), []), ("end", "x"))

    def test_hangs(self):
        for clause in ([("go", 0)], [("go", 1), ("go", 2), ("go", 1)], [("answer", 0, "sa")]):
            whole = self.holds([Handler({"a": 1}, {}, "sa", {("sa", "a"): clause}, {})], ring(3), 1)
            self.assertEqual((shown(whole, []), whole.hangs(), whole.asked()), (("hang",), True, []))
        whole = self.holds([turning(3, 2)], Body({}, [("go", 0)]), 1)
        self.assertEqual(least(whole).rows(), [("go", 0)])

    def test_drawn(self):
        chance = random.Random(71)
        shows = set()
        for turn in range(400):
            tables = [{"a": 2, "b": 1, "c": 0}, {"a": 2, "d": 2}, {"b": 1, "c": 0, "d": 2}]
            body = Body(tables[0], random_rows(chance, tables[0], 6, WORDS), start=chance.randrange(6))
            one = Handler(*random_parts(chance, {"a": 2, "c": 0}, tables[turn % 3], WORDS, ["p", "q"], 4))
            whole = self.holds([one], body, 5)
            shows.update(shown(whole, history)[0] for history, _ in histories(whole, lambda told: shown(whole, told), 2))
            if turn % 4 == 0:
                two = Handler(*random_parts(chance, {"d": 2}, tables[turn % 2], WORDS, ["p", "q"], 3))
                self.holds([one, two], body, 4)
        self.assertEqual(shows, {"ask", "end", "hang"})

    def test_arguments_by_name(self):
        self.assertEqual(handled(handler=passing(), body=ring(2)), handled(passing(), ring(2)))

    def test_mismatch(self):
        def parts(counts, handles, further):
            clauses = {("s", operation): [("go", 0)] for operation in handles}
            return Handler(handles, further, "s", clauses, {}), Body(counts, [("go", 0)])

        for call in (handled, met):
            self.refused(Mismatch, lambda: call(*parts({"a": 1}, {"a": 2}, {})), "a")
            self.refused(Mismatch, lambda: call(*parts({"a": 1}, {}, {"a": 2})), "a")
            self.refused(Mismatch, lambda: call(*parts({"b": 1, "c": 2, "a": 0}, {"c": 1}, {"b": 2, "a": 0})), "b")
            self.refused(Mismatch, lambda: call(*parts({"d": 1, "c": 2, "a": 0}, {"c": 1, "a": 0}, {"d": 2})), "c")
        fitting = parts({"a": 1, "b": 2}, {"a": 1}, {"b": 2, "a": 1})
        self.assertEqual((handled(*fitting).hangs(), met(*fitting)), (True, ([], [])))


def fan(lead):
    """A handler, a body that comes to 190 ends, and the number of their configurations: 20 for each end."""
    rows = [("end", "x")] * 190
    open_rows = list(range(190))
    while len(open_rows) > 1:
        chosen, open_rows = open_rows[:6], open_rows[6:]
        rows.append(("ask", "pick", [*chosen, *[chosen[0]] * (6 - len(chosen))]))
        open_rows.append(len(rows) - 1)
    rows += [("go", len(rows) - 1 + at) for at in range(lead)]
    ends = {("s", "x"): [("ask", "b", [at + 1]) for at in range(18)] + [("finish", "y")]}
    body = Body({"pick": 6}, rows, start=len(rows) - 1)
    return Handler({}, {"b": 1}, "s", {}, ends), body, len(rows) + 190 * 19


class Counted(Checks):
    def test_just_4000_and_one_more(self):
        body = ring(25)
        # 25 rows and 8 states come together in 200 ways, with 19 rows of a clause each.
        self.assertEqual(shown(handled(turning(8, 19), body), []), ("hang",))
        self.assertEqual(len(met(turning(8, 19), body)[0]), 8)
        later = Body({"a": 1}, body.rows() + [("go", 0)], start=25)
        for call in (handled, met):
            self.refused(TooMany, lambda: call(turning(8, 19), later), 4000)
            self.refused(TooMany, lambda: call(turning(8, 20), body), 4000)
        # Rows to which no run comes do not count.
        more = Body({"a": 1}, body.rows() + [("ask", "a", [0])] * 100)
        self.assertEqual(shown(handled(turning(8, 19), more), []), ("hang",))
        dead = Handler({"a": 1}, {}, "sa", {**turning(7, 19).clauses(), ("zz", "a"): [("go", 0)] * 20}, {})
        self.assertEqual(shown(handled(dead, ring(25)), []), ("hang",))

    def test_clauses_that_ask_and_clauses_of_ends_count(self):
        lead = 4000 - fan(0)[2]
        handler, body, many = fan(lead)
        self.assertEqual((many, handled(handler, body).words()), (4000, ["y"]))
        self.assertEqual(met(handler, body), ([], [("s", "x")]))
        handler, body, many = fan(lead + 1)
        self.assertEqual(many, 4001)
        for call in (handled, met):
            self.refused(TooMany, lambda: call(handler, body), 4000)

    def test_mismatch_comes_ahead(self):
        handler = turning(8, 20)
        body = Body({"a": 1, "b": 2}, ring(25).rows())
        odd = Handler({"a": 1}, {"b": 3}, "sa", handler.clauses(), {})
        for call in (handled, met):
            self.refused(Mismatch, lambda: call(odd, body), "b")

    def test_drawn(self):
        chance = random.Random(72)
        tables = [{"a": 2, "b": 1, "c": 0}, {"a": 2, "d": 2}]
        for _ in range(200):
            body = Body(tables[0], random_rows(chance, tables[0], 6, WORDS), start=chance.randrange(6))
            handler = Handler(*random_parts(chance, {"a": 2, "c": 0}, tables[1], WORDS, ["p", "q", "r"], 4))
            many = len(Within([handler], body).walk().stands)
            with mock.patch("askfurther.numbering.MOST", many):
                handled(handler, body)
            with mock.patch("askfurther.numbering.MOST", many - 1):
                self.refused(TooMany, lambda: handled(handler, body), many - 1)
                self.refused(TooMany, lambda: met(handler, body), many - 1)


class Large(Checks):
    def test_400_rows(self):
        chain = Body({"a": 1}, [("go", at + 1) for at in range(398)] + [("ask", "a", [399]), ("end", "x")])
        self.assertEqual(shown(handled(turning(8, 20), chain), []), ("end", "x"))
        loop = Body({"a": 1}, [("go", (at + 1) % 399) for at in range(399)] + [("ask", "a", [7])], start=399)
        self.assertEqual(shown(handled(turning(8, 20), loop), []), ("hang",))
        asks = Handler({"a": 1}, {"b": 2}, "s", {("s", "a"): [("ask", "b", [1, 0]), ("answer", 0, "s")]}, {})
        whole = handled(asks, ring(400))
        self.assertEqual(shown(whole, [("b", at % 2) for at in range(2000)]), ("ask", "b"))
        self.assertEqual(least(whole).rows(), [("ask", "b", (0, 0))])

    def test_what_is_returned_may_be_passed_again(self):
        asks = Handler({"a": 1}, {"b": 2}, "s", {("s", "a"): [("ask", "b", [at + 1, 0]) for at in range(8)] + [("answer", 0, "s")]}, {})
        whole = handled(asks, Body({"a": 1}, [("ask", "a", [at + 1]) for at in range(399)] + [("end", "x")]))
        self.assertGreater(len(whole), 400)
        self.refused(BadBody, lambda: Body(whole.operations(), whole.rows()), -1)
        again = handled(passing(), whole)
        self.assertIsNone(parted(again, whole))
        ended = handled(Handler({}, {}, "s", {}, {("s", "x"): [("finish", "y")]}), again)
        self.assertEqual(shown(ended, [("b", 0)] * (399 * 8)), ("end", "y"))
        self.assertEqual(shown(ended.then({"y": whole}), [("b", 0)] * (399 * 16)), ("end", "x"))

    def test_more_operations_than_a_body_may_be_made_of(self):
        body = Body({"a" + letter: 1 for letter in "abcdefgh"}, [("ask", "aa", (1,)), ("end", "x")])
        further = {"b" + letter: 1 for letter in "abcdefgh"}
        handler = Handler({}, further, "s", {}, {("s", "x"): [("ask", "bh", [1]), ("finish", "y")]})
        whole = handled(handler, body)
        self.assertEqual(whole.operations(), {**body.operations(), **further})
        self.assertEqual(shown(handled(passing(), whole), [("aa", 0), ("bh", 0)]), ("end", "y"))


if __name__ == "__main__":
    unittest.main()
