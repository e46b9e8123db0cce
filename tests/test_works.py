"""Section 13: works, told and refused."""

import itertools
import random
import unittest

from askfurther.bodies import Body
from askfurther.errors import BadHandlers, BadOperations, BadWork, Mismatch
from askfurther.handlers import Handler, passing
from askfurther.works import Work
from tests.checks import Checks
from tests.odd import DICTS, INTEGERS, NO_INTEGERS, NO_NAMES, NO_OPERATIONS, NO_ROWS, NOTHINGS, ROWS, nested
from tests.plain_works import random_functions

COUNT = Handler({"tick": 2}, {"ring": 1}, "a",
                {("a", "tick"): [("answer", 0, "b")], ("b", "tick"): [("ask", "ring", (1,)), ("answer", 1, "a")]},
                {("b", "done"): [("finish", "odd")]})
COUNTS = {"coin": 2, "tick": 2, "ring": 1}
MAIN = ("main", [("handle", "count", "walk", {"done": 1}), ("ask", "coin", (0, 2)), ("end", "even")])
WALK = ("walk", [("ask", "coin", (1, 2)), ("end", "done"), ("ask", "tick", (3, 1)), ("call", "walk", {"done": 1})])
NO_DICTS = NOTHINGS + INTEGERS + ROWS + ["coin", 0, 1]


def made(**others):
    """The work of the example, with other parts in the place of some."""
    return Work(**{"operations": COUNTS, "handlers": {"count": COUNT}, "functions": [MAIN, WALK], **others})


def other_form(chance, functions):
    """The functions with lists and tuples changed, and nexts as dicts or as rows of items in any order."""
    found = []
    for name, rows in functions:
        told = []
        for row in rows:
            row = list(row)
            if row[0] in ("call", "handle"):
                items = [chance.choice([list, tuple])(item) for item in (row[-1].items() if isinstance(row[-1], dict) else row[-1])]
                chance.shuffle(items)
                row[-1] = chance.choice([dict, list, tuple])(items)
            elif row[0] == "ask":
                row[2] = chance.choice([list, tuple])(row[2])
            told.append(chance.choice([list, tuple])(row))
        found.append(chance.choice([list, tuple])((name, chance.choice([list, tuple])(told))))
    return chance.choice([list, tuple])(found)


class Told(unittest.TestCase):
    def test_parts_are_told_back(self):
        work = made()
        self.assertEqual((work.operations(), work.handlers()), (COUNTS, {"count": COUNT}))
        self.assertEqual(work.functions(), [
            ("main", (("handle", "count", "walk", (("done", 1),)), ("ask", "coin", (0, 2)), ("end", "even"))),
            ("walk", (("ask", "coin", (1, 2)), ("end", "done"), ("ask", "tick", (3, 1)), ("call", "walk", (("done", 1),))))])
        self.assertEqual(Work({}, {}, [["main", [["go", 0]]]]).functions(), [("main", (("go", 0),))])

    def test_nexts_are_the_sorted_items(self):
        nexts = {"z": 0, "b": 1, "a": 0, "ab": 1}
        work = Work({}, {"p": passing()}, [("f", [("end", "x")]), ("main", [("call", "f", nexts), ("handle", "p", "f", list(nexts.items())), ("call", "f", ())])])
        told = (("a", 0), ("ab", 1), ("b", 1), ("z", 0))
        self.assertEqual(work.functions()[1][1], (("call", "f", told), ("handle", "p", "f", told), ("call", "f", ())))

    def test_all_forms_are_equal(self):
        chance = random.Random(151)
        handlers = {"p": COUNT, "q": passing()}
        for _ in range(200):
            functions = random_functions(chance, COUNTS, handlers, chance.randrange(1, 6), 5, ["x", "y", "z"])
            work = Work(COUNTS, handlers, functions)
            again = Work(dict(reversed(list(COUNTS.items()))), dict(reversed(list(handlers.items()))), other_form(chance, functions))
            self.assertTrue(work == again)
            self.assertFalse(work != again)
            self.assertEqual(work.functions(), again.functions())
            self.all_tuples(again.functions())
            self.assertEqual(Work(again.operations(), again.handlers(), again.functions()), work)

    def all_tuples(self, told):
        self.assertIs(type(told), list)
        waiting = list(told)
        while waiting:
            part = waiting.pop()
            self.assertNotIsInstance(part, (list, dict))
            waiting += part if isinstance(part, tuple) else []

    def test_equality(self):
        unlike = [
            made(operations={**COUNTS, "more": 1}), made(handlers={"count": COUNT, "more": COUNT}),
            made(handlers={"count": passing()}), made(functions=[WALK, MAIN]),
            made(functions=[MAIN, ("walk", WALK[1] + [("end", "x")])]),
            made(functions=[("main", MAIN[1][:2] + [("end", "odd")]), WALK]),
            made(functions=[("main", [("handle", "count", "walk", {"done": 2})] + MAIN[1][1:]), WALK]),
            made(functions=[("main", [("handle", "count", "walk", {})] + MAIN[1][1:]), WALK]),
        ]
        for work in unlike:
            self.assertFalse(work == made())
            self.assertTrue(work != made())
        self.assertTrue(made() == made())
        for thing in NOTHINGS + ROWS + DICTS + [COUNT, Body({}, [("end", "x")]), "main", [MAIN, WALK]]:
            self.assertFalse(made() == thing)
            self.assertTrue(made() != thing)
            self.assertFalse(thing == made())

    def test_what_is_passed_and_told_may_be_changed(self):
        counts, handlers = dict(COUNTS), {"count": COUNT}
        functions = [["main", [["handle", "count", "walk", {"done": 1}], ["ask", "coin", [0, 2]], ["end", "even"]]],
                     ["walk", [["ask", "coin", [1, 2]], ["end", "done"], ["ask", "tick", [3, 1]], ["call", "walk", [["done", 1]]]]]]
        work = Work(counts, handlers, functions)
        counts["coin"] = 5
        handlers.clear()
        functions[0][1][0][3]["done"] = 2
        functions[0][1][1][2][0] = 1
        functions[1][1][3][2][0][1] = 2
        functions[1][0] = "x"
        functions.pop()
        self.assertEqual(work, made())
        work.operations().clear()
        work.handlers()["more"] = COUNT
        work.functions().clear()
        self.assertEqual(work, made())

    def test_arguments_by_place_and_by_name(self):
        self.assertEqual(Work(COUNTS, {"count": COUNT}, [MAIN, WALK]), made())
        self.assertEqual(Work(functions=(MAIN, WALK), handlers={"count": COUNT}, operations=COUNTS), made())


class Refused(Checks):
    def bad(self, place, functions, **others):
        self.refused(BadWork, lambda: made(functions=functions, **others), place)

    def bad_row(self, row):
        """The row is refused in the first and in the second function, behind right ones and ahead of wrong ones."""
        self.bad((0, 3), [("main", MAIN[1] + [row, row]), WALK])
        self.bad((1, 0), [MAIN, ("walk", [row] + WALK[1] + [None])])

    def test_operations(self):
        for thing in NO_OPERATIONS:
            self.refused(BadOperations, lambda: made(operations=thing, handlers=None, functions=None))

    def test_handlers(self):
        wrong = NO_DICTS + DICTS + [{"Count": COUNT}, {"": COUNT}, {"abcdefghi": COUNT}, {"count": None}, {"count": made()}, {1: COUNT},
                                    {("count",): COUNT}, {"count": [COUNT]}, {"count": Handler}, {"count": COUNT, "walk": "count"},
                                    {"h" + letter: COUNT for letter in "abcdefg"}, {b"count": COUNT}, {"count": Body({}, [("end", "x")])}]
        for thing in wrong:
            self.refused(BadHandlers, lambda: made(handlers=thing, functions=None))
        six = {"count": COUNT, **{"h" + letter: passing() for letter in "abcde"}}
        self.assertEqual(made(handlers=six).handlers(), six)

    def test_no_row_of_functions(self):
        for thing in NO_ROWS + [(), [], [("f" + letter, [("end", "x")]) for letter in "abcdefg"],
                                [("main", [("end", "x")])] + [("f" + letter, [("end", "x")]) for letter in "abcdef"]]:
            self.bad((), thing)
        six = [("main", [("end", "x")])] + [("f" + letter, [("end", "x")]) for letter in "abcde"]
        self.assertEqual(len(made(functions=six).functions()), 6)

    def test_no_functions(self):
        right = [("end", "x")]
        wrong = NOTHINGS + INTEGERS + ROWS + DICTS + [
            "ab", ("main",), ("walk", right, right), [right, "walk"], {"walk": right}, ("walk", []), ("walk", ()), ("walk", right * 61),
            ("walk", {0: ("end", "x")}), ("walk", "end"), ("main", right), ["main", right]]
        wrong += [(name, right) for name in NO_NAMES] + [["walk", rows] for rows in NO_ROWS]
        for thing in wrong:
            self.bad((1,), [("main", right), thing, None])
            if not isinstance(thing, (list, tuple)) or len(thing) != 2 or thing[0] != "main":
                # Ahead of the main that is lacking, and of the wrong row in a function ahead.
                self.bad((0,), [thing, thing])
                self.bad((1,), [("walk", [None]), thing])
        self.bad((3,), [("f", right), ("main", right), ("g", right), ("f", right)])
        self.assertEqual(len(made(functions=[("main", right * 60)]).functions()[0][1]), 60)

    def test_no_main(self):
        self.bad((), [WALK, ("f", [("end", "x")])])
        self.bad((), [("mains", [None])])

    def test_rows_that_are_none(self):
        for row in NOTHINGS + INTEGERS + ROWS + DICTS + ["end", ("leave",), ("answer", 0, "a"), ("finish", "x"), ("set", "x", 0), ("End", "x")]:
            self.bad_row(row)

    def test_ends_and_gos(self):
        for name in NO_NAMES:
            self.bad_row(("end", name))
        for index in NO_INTEGERS + INTEGERS + [9, -1]:
            self.bad_row(["go", index])
        for row in (("end",), ("end", "x", "y"), ("go",), ("go", 0, 0)):
            self.bad_row(row)

    def test_asks(self):
        for name in NO_NAMES + ["toss", "count", "walk", "main"]:
            self.bad_row(("ask", name, (0, 0)))
        for nexts in NO_ROWS + [(), (0,), (0, 0, 0), (0, 9), [-1, 0], (0, True), (0, "0"), (0, (0,)), {0: 0, 1: 1}]:
            self.bad_row(["ask", "coin", nexts])
        for index in NO_INTEGERS + INTEGERS:
            self.bad_row(("ask", "coin", (0, index)))
        for row in (("ask",), ("ask", "coin"), ("ask", "coin", (0, 0), 0)):
            self.bad_row(row)
        # What a handler handles or asks, but is none of the work's own operations, is not asked.
        self.bad((1, 2), [MAIN, WALK], operations={"coin": 2})

    def test_calls_and_handles(self):
        for name in NO_NAMES + ["main", "count", "coin", "none"]:
            self.bad_row(("call", name, {}))
            self.bad_row(["handle", "count", name, []])
        for name in NO_NAMES + ["main", "walk", "coin", "none"]:
            self.bad_row(("handle", name, "walk", {}))
        for row in (("call",), ("call", "walk"), ("call", "walk", {}, {}), ("handle", "count"), ("handle", "count", "walk"),
                    ("handle", "count", "walk", {}, 0), ("handle", "walk", {}), ("call", "count", "walk", {})):
            self.bad_row(row)

    def test_nexts(self):
        eight = {"w" + letter: 0 for letter in "abcdefgh"}
        wrong = [thing for thing in NOTHINGS + INTEGERS + ROWS + DICTS + ["coin", 0, {"a": 9}, {"a": -1}, {**eight, "x": 0}]
                 if thing != [] and thing != ()]
        wrong += [{name: 0} for name in NO_NAMES if isinstance(name, (str, bytes, int, type(None)))] + [{"a": index} for index in NO_INTEGERS]
        wrong += [[("a", 0), ("a", 0)], [("a", 0), ["b", 0], ("a", 1)], [("a",)], [("a", 0, 0)], ["a0"], [("a", 0), None], [(0, "a")],
                  list(eight.items()) + [("x", 0)], [{"a": 0}]]
        wrong += [[("a", index)] for index in NO_INTEGERS] + [((name, 0),) for name in NO_NAMES]
        for nexts in wrong:
            self.bad_row(("call", "walk", nexts))
            self.bad_row(["handle", "count", "walk", nexts])
        nexts = {word: 3 for word in eight}
        work = made(functions=[("main", MAIN[1] + [("call", "walk", nexts), ("handle", "count", "walk", list(nexts.items()))]), WALK])
        self.assertEqual(len(work.functions()[0][1][4][-1]), 8)

    def test_functions_ahead_of_rows_and_rows_in_order(self):
        right = [("end", "x")]
        self.bad((1,), [("main", [None]), ("walk", [])])
        self.bad((), [("walk", [None]), ("f", [None])])
        self.bad((0, 1), [("main", [("end", "x"), ("go", 9), ("end", "X")]), ("walk", [None])])
        self.bad((2, 0), [("main", right), ("f", right), ("g", [("call", "h", {})]), ("i", [None])])

    def test_handle_rows_that_lead_back(self):
        end = ("end", "x")

        def handle(name):
            return ("handle", "count", name, {})

        def call(name):
            return ("call", name, {})

        main = ("main", [end])
        self.bad((1, 1), [main, ("f", [end, handle("f")])])
        self.bad((1, 0), [main, ("f", [handle("g")]), ("g", [call("f")])])
        # It is told at the "handle" row, also where a "call" row stands ahead; runs need not come to them.
        self.bad((2, 1), [main, ("f", [call("g")]), ("g", [end, handle("h")]), ("h", [end, call("f")])])
        self.bad((1, 2), [main, ("f", [end, call("g"), handle("g")]), ("g", [call("h")]), ("h", [call("i"), call("f")]), ("i", [end])])
        self.bad((1, 0), [("g", [call("g"), end]), ("f", [handle("h")]), ("h", [handle("f")]), main])
        # Wrong rows come ahead, of whatever function.
        self.bad((2, 0), [main, ("f", [handle("f")]), ("g", [None])])
        for functions in ([main, ("f", [call("f"), handle("g")]), ("g", [call("g"), handle("h")]), ("h", [call("h")])],
                          [("main", [handle("f"), call("f")]), ("f", [call("g")]), ("g", [call("f")])]):
            self.assertEqual(len(made(functions=functions).functions()), len(functions))

    def test_mismatch_behind_all_else(self):
        rows = [("go", 0)]

        def keeper(handles, further):
            return Handler(handles, further, "s", {("s", name): rows for name in handles}, {})

        tables = [{"b": 1}, {"c": 2}, {"d": 0}, {"e": 3}, {"f": 1}]
        for one, two in itertools.combinations(range(5), 2):
            for operation, later in (("a", "b"), ("z", "zz")):
                told = [dict(table) for table in tables]
                told[one].update({operation: 3, later: 1})
                told[two].update({operation: 2, later: 2} if later != "b" else {operation: 2})
                if (one, two) in ((1, 2), (3, 4)):
                    continue
                handlers = {"p": keeper(told[1], told[2]), "q": keeper(told[3], told[4])}
                self.refused(Mismatch, lambda: Work(told[0], handlers, [("main", [("end", "x")])]), operation)
                self.refused(BadWork, lambda: Work(told[0], handlers, [("main", [None])]), (0, 0))
                self.refused(BadWork, lambda: Work(told[0], handlers, [("main", rows), ("f", [("handle", "p", "f", {})])]), (1, 0))

    def test_deep_things(self):
        deep = nested(90, lambda thing: [thing], [])
        self.bad((1,), [MAIN, deep])
        self.bad_row(["call", "walk", {"a": deep}])
        self.bad_row(["call", "walk", [["a", nested(85, lambda thing: (thing,), ())]]])
        self.refused(BadHandlers, lambda: made(handlers={"count": deep}))


if __name__ == "__main__":
    unittest.main()
