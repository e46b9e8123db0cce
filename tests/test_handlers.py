"""Section 6: handlers, told and refused."""

import copy
import itertools
import random
import unittest

from askfurther.bodies import Body, shown
from askfurther.errors import BadHandler
from askfurther.fusing import handled
from askfurther.handlers import Handler, passing
from tests.checks import Checks
from tests.odd import DICTS, INTEGERS, NO_INTEGERS, NO_NAMES, NO_OPERATIONS, NO_ROWS, NOTHINGS, ROWS, SMALL, nested
from tests.within import random_parts

CLAUSES = {
    ("low", "coin"): [("answer", 1, "high")],
    ("high", "coin"): [("ask", "tell", (1,)), ("answer", 0, "low")],
}
ENDS = {("high", "good"): [("go", 1), ("finish", "odd")]}
PARTS = ("handled", "further", "start", "clauses", "ends")
NO_DICTS = NOTHINGS + INTEGERS + ROWS + ["coin", 0, 1]
# Keys that can stand in a dict, but are no tuples of two names.
NO_KEYS = [
    None, True, 1, "coin", "ab", b"coin", (), ("low",), ("low", "coin", "coin"), ("Low", "coin"), ("low", "Coin"),
    ("", "coin"), ("low", ""), ("abcdefghi", "coin"), ("low", "abcdefghi"), (1, "coin"), ("low", 2), (None, None),
    (True, False), (b"low", "coin"), ("low", b"coin"), (("low",), "coin"), ("low", ("coin",)), frozenset(("low", "coin")),
    nested(90, lambda thing: (thing,), ()), ("low", nested(89, lambda thing: (thing,), ())), Ellipsis, Handler, len,
    range(2), slice, object(), ("low", SMALL.asked),
]


def flip(**others):
    """The handler of the examples, with other parts in the place of some."""
    parts = {"handled": {"coin": 2}, "further": {"tell": 1}, "start": "low", "clauses": CLAUSES, "ends": ENDS}
    return Handler(**{**parts, **others})


def as_lists(table):
    return {at: [[list(part) if isinstance(part, tuple) else part for part in row] for row in rows]
            for at, rows in table.items()}


def as_tuples(table):
    return {at: tuple(tuple(tuple(part) if isinstance(part, list) else part for part in row) for row in rows)
            for at, rows in table.items()}


def backward(table):
    return {at: table[at] for at in reversed(list(table))}


class Told(unittest.TestCase):
    def test_parts_are_told_as_handed_in(self):
        for form in (dict, as_lists, as_tuples, backward):
            handler = flip(clauses=form(CLAUSES), ends=form(ENDS))
            self.assertEqual((handler.handled(), handler.further()), ({"coin": 2}, {"tell": 1}))
            self.assertEqual((handler.start, handler.states()), ("low", ["high", "low"]))
            self.assertEqual(handler.clauses(), as_tuples(CLAUSES))
            self.assertEqual(handler.ends(), as_tuples(ENDS))
            self.assertEqual(handler["low", "coin"], (("answer", 1, "high"),))
            self.assertEqual(handler[("high", "coin")], (("ask", "tell", (1,)), ("answer", 0, "low")))

    def test_what_is_told_is_made_of_tuples(self):
        for form in (dict, as_lists):
            handler = flip(clauses=form(CLAUSES), ends=form(ENDS))
            for rows in [*handler.clauses().values(), *handler.ends().values(), handler["high", "coin"]]:
                self.assertIs(type(rows), tuple)
                for row in rows:
                    self.assertIs(type(row), tuple)
                    self.assertFalse(any(isinstance(part, list) for part in row))

    def test_arguments_by_place_and_by_name(self):
        self.assertEqual(Handler({"coin": 2}, {"tell": 1}, "low", CLAUSES, ENDS), flip())
        with self.assertRaises(TypeError):
            Handler({}, {}, "a", {})

    def test_states_are_those_of_all_parts(self):
        clauses = {(state, "coin"): [("answer", 0, "d")] for state in "bdcaz"}
        handler = flip(start="c", clauses=clauses, ends={("z", "good"): [("finish", "x")], ("a", "x"): [("go", 0)]})
        self.assertEqual(handler.states(), ["a", "b", "c", "d", "z"])
        self.assertEqual(Handler({}, {}, "on", {}, {("off", "x"): [("go", 0)]}).states(), ["off", "on"])
        self.assertEqual(Handler({}, {}, "on", {}, {}).states(), ["on"])

    def test_brackets(self):
        handler = flip(ends={**ENDS, ("low", "coin"): [("finish", "x")]})
        self.assertEqual(handler["low", "coin"], (("answer", 1, "high"),))
        for at in [("high", "good"), ("low", "tell"), ("lost", "coin"), ["low", "coin"], ("low", ["coin"]), (["low"], "coin"),
                   ("coin", "low"), ("low", "coin", 0), ("low",), "low", ({}, set()), [[]]] + NO_KEYS:
            self.assertIsNone(handler[at])
        for at in NOTHINGS + INTEGERS + ROWS + DICTS:
            self.assertIsNone(handler[at])
            self.assertIsNone(handler["low", at])
            self.assertIsNone(handler[at, "coin"])

    def test_in(self):
        self.assertIs("coin" in flip(), True)
        for thing in NO_NAMES + ["tell", "low", "good", "clauses"]:
            self.assertIs(thing in flip(), False)

    def test_equality(self):
        handler = flip()
        self.assertTrue(handler == flip(clauses=backward(as_lists(CLAUSES)), ends=as_tuples(ENDS)))
        self.assertFalse(handler != flip())
        more = {**CLAUSES, ("low", "toss"): [("go", 0)], ("high", "toss"): [("go", 0)]}
        unlike = [
            flip(handled={"coin": 3}), flip(handled={"coin": 2, "toss": 2}, clauses=more), flip(further={"tell": 1, "x": 1}),
            flip(start="high"), flip(clauses={**CLAUSES, ("low", "coin"): [("answer", 0, "high")]}),
            flip(clauses={**CLAUSES, ("lost", "coin"): [("go", 0)]}), flip(ends={}), flip(ends={**ENDS, ("low", "x"): [("go", 0)]}),
            flip(ends={("high", "good"): [("go", 1), ("finish", "even")]}), passing(),
        ]
        for other in unlike + NOTHINGS + ROWS + DICTS + [CLAUSES, "low"]:
            self.assertFalse(handler == other)
            self.assertTrue(handler != other)
            self.assertFalse(other == handler)
        table = {("a", "x"): [("finish", "y")]}
        self.assertFalse(Handler({"x": 0}, {}, "a", table, {}) == Handler({"x": 0}, {}, "a", table, table))
        self.assertFalse(Handler({}, {}, "a", {}, {}) == Handler({}, {}, "a", {}, table))

    def test_handlers_are_not_iterated_over(self):
        for call in (iter, list, len):
            with self.assertRaises(TypeError):
                call(flip())

    def test_passing(self):
        handler = passing()
        self.assertEqual((handler.handled(), handler.further(), handler.start), ({}, {}, "a"))
        self.assertEqual((handler.clauses(), handler.ends(), handler.states()), ({}, {}, ["a"]))
        self.assertEqual(handler, Handler({}, {}, "a", {}, {}))

    def test_handlers_may_be_copied(self):
        self.assertEqual(copy.deepcopy(flip()), flip())

    def test_drawn_handlers_are_told_as_handed_in(self):
        chance = random.Random(61)
        for _ in range(100):
            parts = random_parts(chance, {"a": 2, "b": 0}, {"a": 2, "c": 3}, ["x", "y"], ["p", "q", "r"], 5)
            one, other = Handler(*parts), Handler(*parts[:3], backward(as_lists(parts[3])), backward(as_tuples(parts[4])))
            self.assertEqual(one, other)
            for handler in (one, other):
                self.assertEqual((handler.handled(), handler.further(), handler.start), parts[:3])
                self.assertEqual((handler.clauses(), handler.ends()), (as_tuples(parts[3]), as_tuples(parts[4])))
                self.assertEqual(list(handler.clauses()), list(one.clauses()))
                self.assertEqual(list(handler.ends()), list(one.ends()))


class Unchanged(unittest.TestCase):
    def test_what_was_handed_in_may_be_changed(self):
        handled_, further, clauses, ends = {"coin": 2}, {"tell": 1}, as_lists(CLAUSES), as_lists(ENDS)
        handler = Handler(handled_, further, "low", clauses, ends)
        self.assertEqual((handled_, further), ({"coin": 2}, {"tell": 1}))
        self.assertEqual((clauses, ends), (as_lists(CLAUSES), as_lists(ENDS)))
        handled_["more"] = 1
        further.clear()
        clauses["high", "coin"][0][2][0] = 0
        clauses["low", "coin"][0][1] = 0
        clauses["new", "coin"] = [("go", 0)]
        ends["high", "good"].pop()
        ends.clear()
        self.assertEqual(handler, flip())
        self.assertEqual(handler.states(), ["high", "low"])

    def test_what_was_told_may_be_changed(self):
        handler = flip()
        handler.handled()["coin"] = 1
        handler.further().clear()
        handler.clauses().clear()
        handler.clauses()["low", "coin"] = None
        handler.ends().clear()
        handler.states().clear()
        self.assertEqual(handler, flip())
        self.assertEqual((handler.states(), handler.handled()), (["high", "low"], {"coin": 2}))
        self.assertEqual((handler.clauses(), handler.ends()), (as_tuples(CLAUSES), as_tuples(ENDS)))

    def test_start_stays(self):
        with self.assertRaises(AttributeError):
            flip().start = "high"


class Refused(Checks):
    def bad(self, part, **others):
        self.refused(BadHandler, lambda: flip(**others), part)

    def test_handled(self):
        for thing in NO_OPERATIONS + [{"coin": 7}, {"coin": -1}, {"Coin": 2}]:
            self.bad("handled", handled=thing)
        eight = {"abcdefgh"[at:]: at % 7 for at in range(8)}
        clauses = {("a", operation): [("go", 0)] for operation in eight}
        self.assertEqual(Handler(eight, {}, "a", clauses, {}).handled(), eight)
        self.bad("handled", handled={**eight, "z": 1})

    def test_further(self):
        for thing in NO_OPERATIONS + [{"tell": 7}, {"tell": -1}, {"Tell": 1}]:
            self.bad("further", further=thing)
        self.bad("further", further={"tell": 1, "coin": 3})
        self.bad("further", further={"coin": 1})
        self.assertEqual(flip(further={"coin": 2, "tell": 1}).further(), {"coin": 2, "tell": 1})
        eight = {"tell": 1, **{"abcdefg"[at:]: at % 7 for at in range(7)}}
        self.assertEqual(flip(further=eight).further(), eight)
        self.bad("further", further={**eight, "z": 1})

    def test_start(self):
        for thing in NO_NAMES:
            self.bad("start", start=thing)
        self.assertEqual(flip(start="abcdefgh", clauses={**CLAUSES, ("abcdefgh", "coin"): [("go", 0)]}).start, "abcdefgh")

    def test_no_dicts_and_wrong_keys(self):
        for part in ("clauses", "ends"):
            for thing in NO_DICTS + [[], (), list(CLAUSES.items())]:
                self.bad(part, **{part: thing})
            for key in NO_KEYS:
                self.bad(part, clauses={**CLAUSES, **({key: [("go", 0)]} if part == "clauses" else {})},
                         ends={**ENDS, **({key: [("go", 0)]} if part == "ends" else {})})
        for thing in DICTS:
            if thing:
                self.bad("clauses", clauses=thing)
                self.bad("ends", ends=thing)

    def test_clauses_for_each_state_and_operation(self):
        self.bad("clauses", clauses={})
        self.bad("clauses", clauses={("low", "coin"): [("answer", 1, "high")]})
        self.bad("clauses", clauses={("low", "coin"): [("answer", 1, "low")]})
        self.bad("clauses", start="lost")
        self.bad("clauses", ends={("lost", "good"): [("finish", "odd")]})
        self.bad("clauses", clauses={**CLAUSES, ("low", "tell"): [("go", 0)]})
        self.bad("clauses", clauses={**CLAUSES, ("low", "toss"): [("go", 0)]})
        self.bad("clauses", handled={"coin": 2, "toss": 0})
        self.bad("clauses", handled={"coin": 2, "toss": 0}, clauses={**CLAUSES, ("low", "toss"): [("go", 0)]})
        self.bad("clauses", handled={})
        self.assertEqual(flip(handled={}, clauses={}).states(), ["high", "low"])

    def wrong_rows(self):
        """Rows that cannot stand in a clause of three rows, nor in one of ends."""
        wrong = NO_ROWS + ROWS + NO_NAMES
        wrong += [("ask", name, (0,)) for name in NO_NAMES + ["coin", "good", "low"]]
        wrong += [("ask", "tell", nexts) for nexts in NO_ROWS + [[], (0, 0), (0,) * 10000, [[]]]]
        for index in NO_INTEGERS + INTEGERS + [3, -3, 20]:
            wrong += [("ask", "tell", (index,)), ["ask", "tell", [index]], ("go", index), ["go", index]]
        wrong += [("finish", word) for word in NO_NAMES]
        wrong += [
            ("ask", "tell"), ("ask",), ("ask", "tell", (0,), 0), ("go",), ("go", 0, 0), ("finish",), ("finish", "odd", "odd"),
            ("answer",), ("answer", 0), ("answer", "low", 0), ("answer", 0, "low", "low"), ("end", "good"), ("END", "good"),
            ("", 0), (b"go", 0), (None, 0), (["go"], 0), ("finish", "abcdefghi"), ("finish", ""), "go", ("hang",), {"go": 0},
        ]
        return wrong

    def test_rows(self):
        answers = [("answer", k, "low") for k in NO_INTEGERS + INTEGERS + [2, -2, 6]]
        answers += [["answer", 0, state] for state in NO_NAMES]
        for row in self.wrong_rows() + answers:
            for rows in ([row, ("go", 0), ("go", 0)], (("go", 0), ["go", 0], row)):
                self.bad("clauses", clauses={**CLAUSES, ("low", "coin"): rows})
                self.bad("ends", ends={**ENDS, ("low", "good"): rows})
        for answer in (0, 1):
            self.bad("ends", ends={**ENDS, ("low", "good"): [("finish", "x"), ("answer", answer, "low")]})
        for operation, k in (("none", 0), ("one", 1), ("six", 6)):
            counts = {"none": 0, "one": 1, "six": 6}
            clauses = {("a", name): [("go", 0)] for name in counts}
            table = {**clauses, ("a", operation): [("answer", k, "a")]}
            self.refused(BadHandler, lambda: Handler(counts, {}, "a", table, {}), "clauses")
            if k > 0:
                table["a", operation] = [("answer", k - 1, "a")]
                self.assertEqual(Handler(counts, {}, "a", table, {})["a", operation], (("answer", k - 1, "a"),))

    def test_rows_that_are_right(self):
        rows = [("ask", "coin", [4, 0]), ["ask", "none", ()], ("go", 3), ["finish", "abcdefgh"], ("go", 2)]
        handler = flip(further={"coin": 2, "none": 0}, clauses={("low", "coin"): rows}, ends={("low", "coin"): rows})
        told = (("ask", "coin", (4, 0)), ("ask", "none", ()), ("go", 3), ("finish", "abcdefgh"), ("go", 2))
        self.assertEqual((handler["low", "coin"], handler.ends()), (told, {("low", "coin"): told}))

    def test_bounds_of_rows(self):
        for rows in NO_ROWS + [[], ()]:
            self.bad("clauses", clauses={**CLAUSES, ("low", "coin"): rows})
            self.bad("ends", ends={**ENDS, ("low", "coin"): rows})
        for part, other in (("clauses", {("low", "coin"): [("go", 20)] * 21}), ("ends", {("low", "x"): [("go", 19)] * 21})):
            self.bad(part, **{part: {**(CLAUSES if part == "clauses" else ENDS), **other}})
        twenty = [("go", 19)] * 20
        self.assertEqual(flip(clauses={**CLAUSES, ("low", "coin"): twenty})["low", "coin"], tuple(twenty))
        self.assertEqual(flip(ends={("low", "coin"): twenty}).ends(), {("low", "coin"): tuple(twenty)})
        self.bad("clauses", clauses={**CLAUSES, ("low", "coin"): [("go", 0)] * 10000})

    def test_bounds_of_states(self):
        def clauses(states):
            return {(state, "coin"): [("answer", 0, state)] for state in states}

        eight = ["s" + letter for letter in "abcdefgh"]
        self.assertEqual(flip(start="sa", clauses=clauses(eight), ends={}).states(), eight)
        self.bad("clauses", start="sa", clauses=clauses(eight + ["si"]), ends={})
        self.assertEqual(len(flip(handled={}, start="sa", clauses={}, ends={(s, "x"): [("go", 0)] for s in eight}).states()), 8)
        self.bad("clauses", handled={}, start="si", clauses={}, ends={(s, "x"): [("go", 0)] for s in eight})
        answers = [("answer", 0, state) for state in eight]
        self.bad("clauses", start="sa", clauses={**clauses(eight), ("sa", "coin"): answers + [("answer", 0, "si")]}, ends={})
        self.assertEqual(flip(start="sa", clauses={**clauses(eight), ("sa", "coin"): answers}, ends={}).states(), eight)
        # A handler that handles nothing may have many clauses of ends, but not many states.
        words = [one + other for one, other in itertools.product("abcdefgh", repeat=2)]
        many = {(state, word): [("finish", word)] for state in eight for word in words}
        self.assertEqual(len(flip(handled={}, start="sa", clauses={}, ends=many).ends()), 512)

    def test_states_of_ends_count_whatever_else_is_wrong_there(self):
        eight = {("s" + letter, "coin"): [("go", 0)] for letter in "abcdefgh"}
        for rows in ([("go", 0)], None, [], [("go", 7)], "go", [("answer", 0, "low")]):
            self.bad("clauses", start="sa", clauses=eight, ends={("si", "x"): rows})
            self.bad("clauses", start="sa", clauses=eight, ends={None: [], ("si", "x"): rows, ("sa", "X"): rows})
            self.bad("clauses", ends={("lost", "x"): rows})
        for key in [("si", "X"), ("si",), "si", ("Si", "x"), ("si", "x", "x"), ("si", None), ("si", ""), (("si", "x"), "x")]:
            self.bad("ends", start="sa", clauses=eight, ends={key: [("go", 0)]})
            self.bad("ends", ends={key: [("go", 0)]})
        # States that are named in a row of the ends do not count.
        self.bad("ends", ends={("low", "x"): [("answer", 0, "lost")]})

    def test_order_of_the_checks(self):
        wrong = {"handled": {"coin": 7}, "further": {"tell": 7}, "start": "", "clauses": None, "ends": None}
        for many in range(1, 6):
            for parts in itertools.combinations(PARTS, many):
                self.bad(parts[0], **{part: wrong[part] for part in parts})
        self.bad("further", further={"coin": 3}, start=None, clauses={}, ends={})
        self.bad("clauses", clauses={**CLAUSES, ("low", "coin"): [("answer", 2, "low")]}, ends={("low", "x"): []})

    def test_words_and_states_and_operations_may_share_names(self):
        handler = Handler({"a": 1}, {"a": 1}, "a", {("a", "a"): [("ask", "a", [1]), ("answer", 0, "a")]},
                          {("a", "a"): [("ask", "a", [1]), ("finish", "a")]})
        self.assertEqual((handler["a", "a"], handler.states()), ((("ask", "a", (1,)), ("answer", 0, "a")), ["a"]))
        body = Body({"a": 1}, [("ask", "a", [1]), ("end", "a")])
        self.assertEqual(shown(handled(handler, body), [("a", 0), ("a", 0)]), ("end", "a"))
        self.assertEqual(shown(handled(handler, body), [("a", 0)]), ("ask", "a"))


if __name__ == "__main__":
    unittest.main()
