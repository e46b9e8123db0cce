"""Section 5: bodies that are written."""

import random
import unittest

from askfurther.bodies import Body, shown
from askfurther.errors import BadOperations, BadProgram, BadSizes, TooMany
from askfurther.programs import Program
from askfurther.written import lines_of, written
from tests.checks import Checks
from tests.models import Written, histories, random_block
from tests.odd import DICTS, INTEGERS, NO_INTEGERS, NO_NAMES, NO_OPERATIONS, NO_ROWS, NOTHINGS, ROWS, nested

OPERATIONS = {"coin": 2, "die": 6, "dot": 1, "fail": 0}
SIZES = {"x": 2, "y": 2, "z": 6}


class Works(Checks):
    def shows(self, block, sizes=SIZES):
        """What the written body shows behind the first few answers, all of them being the given ones."""
        body = written(OPERATIONS, sizes, block)
        self.assertIs(type(body), Body)
        self.assertEqual(body.operations(), OPERATIONS)
        model = Written(OPERATIONS, sizes, block)
        for history, told in histories(model, model.shown, 3):
            self.assertEqual(shown(body, history), told)
        return body

    def behind(self, body, *answers):
        """What the body shows behind these answers to whatever it asks."""
        history = []
        for answer in answers:
            history.append((shown(body, history)[1], answer))
        return shown(body, history)

    def test_example_of_section_5(self):
        heads = written({"coin": 2}, {"x": 2, "n": 3}, [
            ("loop", [("ask", "x", "coin"), ("when", "x", 0, [("end", "tail")], []), ("turn", "n"),
                      ("when", "n", 0, [("leave",)], [])]),
        ])
        self.assertEqual(shown(heads, [("coin", 1)] * 3), ("end", "done"))
        self.assertEqual(shown(heads, [("coin", 1), ("coin", 0)]), ("end", "tail"))

    def test_arguments_by_name_lists_and_tuples(self):
        lists = [["ask", "x", "coin"], ["when", "x", 0, [["end", "zero"]], []], ["loop", []]]
        tuples = (("ask", "x", "coin"), ("when", "x", 0, (("end", "zero"),), ()), ("loop", ()))
        for block in (lists, tuples):
            body = written(operations=OPERATIONS, sizes=SIZES, block=block)
            self.assertEqual((body.asked(), body.words(), body.hangs()), (["coin"], ["zero"], True))

    def test_empty_block(self):
        for block in ([], ()):
            self.assertEqual(shown(self.shows(block, {}), []), ("end", "done"))

    def test_ask(self):
        body = self.shows([("ask", "z", "die"), ("when", "z", 4, [("end", "four")], [("end", "other")])])
        self.assertEqual([self.behind(body, k)[1] for k in range(6)], ["other"] * 4 + ["four", "other"])
        body = self.shows([("ask", "x", "coin"), ("ask", None, "coin"), ("when", "x", 1, [("end", "one")], [])])
        self.assertEqual(self.behind(body, 1, 0), ("end", "one"))
        self.assertEqual(self.behind(body, 0, 1), ("end", "done"))
        body = self.shows([("ask", "x", "fail"), ("end", "no")])
        self.assertEqual((body.asked(), body.words(), body.hangs()), (["fail"], [], False))
        self.assertEqual(self.shows([("ask", None, "fail")]).words(), [])

    def test_variables_hold_0_at_first(self):
        body = self.shows([("when", "x", 0, [("when", "z", 0, [("end", "yes")], [])], [])])
        self.assertEqual(shown(body, []), ("end", "yes"))

    def test_set(self):
        for k in range(6):
            body = self.shows([("set", "z", k), ("when", "z", k, [("end", "yes")], [("end", "no")])])
            self.assertEqual(shown(body, []), ("end", "yes"))
        self.assertEqual(shown(self.shows([("set", "z", 5), ("when", "x", 0, [], [("end", "no")])]), []), ("end", "done"))

    def test_copy(self):
        body = self.shows([("ask", "x", "coin"), ("copy", "z", "x"), ("set", "x", 0),
                           ("when", "z", 1, [("end", "one")], [("end", "zero")])])
        self.assertEqual([self.behind(body, k)[1] for k in range(2)], ["zero", "one"])
        self.assertEqual(shown(self.shows([("copy", "x", "x")]), []), ("end", "done"))

    def test_turn(self):
        for many in range(8):
            block = [("turn", "z")] * many + [("when", "z", many % 6, [("end", "yes")], [("end", "no")])]
            self.assertEqual(shown(self.shows(block), []), ("end", "yes"))
        self.assertEqual(shown(self.shows([("turn", "a"), ("when", "a", 0, [], [("end", "no")])], {"a": 1}), []),
                         ("end", "done"))

    def test_when_and_same(self):
        block = [("ask", "x", "coin"), ("ask", "z", "die"),
                 ("same", "x", "z", [("ask", None, "dot"), ("end", "same")], [("when", "z", 5, [("end", "five")], ())])]
        body = self.shows(block)
        for one in range(2):
            for two in range(6):
                want = ("ask", "dot") if one == two else ("end", "five" if two == 5 else "done")
                self.assertEqual(self.behind(body, one, two), want)
        self.assertEqual(shown(self.shows([("same", "x", "x", [("end", "yes")], [])]), []), ("end", "yes"))

    def test_empty_blocks_go_on_behind(self):
        for holder in (("when", "x", 0, [], [("end", "no")]), ("when", "x", 1, [("end", "no")], []),
                       ("same", "x", "y", [], [("end", "no")])):
            self.assertEqual(shown(self.shows([holder, ("ask", None, "dot")]), []), ("ask", "dot"))
            self.assertEqual(shown(self.shows([holder]), []), ("end", "done"))
            self.assertEqual(shown(self.shows([("loop", [("ask", None, "dot"), holder])]), [("dot", 0)]), ("ask", "dot"))
            self.assertEqual(shown(self.shows([("when", "x", 0, [holder], []), ("end", "ok")]), []), ("end", "ok"))

    def test_loops(self):
        body = self.shows([("loop", [("ask", None, "dot")]), ("end", "never")])
        self.assertEqual(shown(body, [("dot", 0)] * 10000), ("ask", "dot"))
        self.assertEqual((body.words(), body.hangs()), ([], False))

    def test_hanging_loops(self):
        once = [("when", "x", 0, [], [])]
        for inner in ([], [("again",)], [("loop", [])], [("turn", "z")], [("set", "x", 1)], once,
                      [("loop", [("leave",)])], [("when", "x", 0, [("again",)], [("leave",)])]):
            body = self.shows([("loop", inner), ("end", "never")])
            self.assertEqual((shown(body, []), body.hangs(), body.words()), (("hang",), True, []))

    def test_leave_and_again_within_when_and_same(self):
        block = [("loop", [
            ("ask", "x", "coin"),
            ("same", "x", "y", [("when", "x", 0, [("again",), ("end", "never")], [])], [("leave",), ("end", "never")]),
            ("end", "odd")])]
        body = self.shows(block + [("end", "behind")])
        self.assertEqual(self.behind(body, 0), ("ask", "coin"))
        self.assertEqual(self.behind(body, 0, 0, 0, 1), ("end", "behind"))
        self.assertEqual(body.words(), ["behind"])
        self.assertEqual(self.shows(block).words(), ["done"])

    def test_innermost_loop(self):
        block = [("loop", [("ask", None, "dot"),
                           ("loop", [("ask", "x", "coin"), ("when", "x", 0, [("again",)], [("leave",)])]),
                           ("ask", "z", "die"), ("when", "z", 0, [("leave",)], [("again",)])]),
                 ("ask", None, "fail")]
        body = self.shows(block)
        self.assertEqual(self.behind(body, 0, 0), ("ask", "coin"))
        self.assertEqual(self.behind(body, 0, 0, 1), ("ask", "die"))
        self.assertEqual(self.behind(body, 0, 0, 1, 5), ("ask", "dot"))
        self.assertEqual(self.behind(body, 0, 0, 1, 5, 0, 1, 0), ("ask", "fail"))

    def test_end(self):
        self.assertEqual(shown(self.shows([("loop", [("end", "abcdefgh")])]), []), ("end", "abcdefgh"))

    def test_ends_behind_the_last_statement(self):
        for block in ([("turn", "x")], [("loop", [("leave",)])], [("when", "x", 0, [("loop", [("leave",)])], [])],
                      [("same", "x", "y", [("same", "x", "y", [], [])], [])]):
            self.assertEqual(shown(self.shows(block), []), ("end", "done"))

    def test_what_was_passed_may_be_changed(self):
        operations, sizes = dict(OPERATIONS), dict(SIZES)
        block = [["ask", "x", "coin"], ["when", "x", 0, [["end", "zero"]], []]]
        body = written(operations, sizes, block)
        self.assertEqual((operations, sizes), (OPERATIONS, SIZES))
        self.assertEqual(block, [["ask", "x", "coin"], ["when", "x", 0, [["end", "zero"]], []]])
        block[1][3][0][1] = "changed"
        block.clear()
        operations.clear()
        sizes.clear()
        self.assertEqual(body, written(OPERATIONS, SIZES, [("ask", "x", "coin"), ("when", "x", 0, [("end", "zero")], [])]))
        self.assertEqual(body.operations(), OPERATIONS)

    def test_variables_and_operations_may_share_names(self):
        block = [("ask", "coin", "coin"), ("when", "coin", 1, [("end", "coin")], [])]
        self.assertEqual(written({"coin": 2}, {"coin": 2}, block).words(), ["coin", "done"])

    def test_results_may_be_passed_again(self):
        block = [("ask", name, "die") for name in "abc"] + [("same", "a", "b", [("end", "same")], [])]
        body = written({"die": 6}, {"a": 6, "b": 6, "c": 6}, block)
        both = body.then({"same": body, "done": Body({}, [("go", 0)])})
        self.assertEqual(shown(both, [("die", 1)] * 5 + [("die", 2)]), ("end", "same"))
        self.assertEqual(self.behind(both, 1, 2, 0), ("hang",))

    def test_many_programs(self):
        chance = random.Random(7)
        for _ in range(1500):
            operations = {"a": 2, "b": 3, "c": 1, "d": 0}
            sizes = {name: chance.randrange(1, 4) for name in chance.sample("vwxyz", chance.randrange(4))}
            block, _ = random_block(chance, operations, sizes, 14, False, 0)
            body = written(operations, sizes, block)
            model = Written(operations, sizes, block)
            for history, told in histories(model, model.shown, 4):
                self.assertEqual(shown(body, history), told)
            self.assertEqual(len(lines_of(Program(operations, sizes, block))), model.count())


class RefusedArguments(Checks):
    def test_bad_operations(self):
        for operations in NO_OPERATIONS:
            self.refused(BadOperations, lambda: written(operations, None, None))

    def test_bad_sizes(self):
        wrong = NOTHINGS + INTEGERS + ROWS + ["coin", 0] + DICTS
        wrong += [{"x": size} for size in NO_INTEGERS + [0, -1, 7, True]]
        wrong += [{"abcdefg"[at:]: 1 for at in range(7)}, {"x": 1, "Y": 1}, {"x": 1, "y": 0}]
        for sizes in wrong:
            self.refused(BadSizes, lambda: written(OPERATIONS, sizes, None))
        six = {"abcdefgh"[at:]: at + 1 for at in range(6)}
        self.assertEqual(written(OPERATIONS, six, [("turn", "abcdefgh")]).words(), ["done"])
        self.assertEqual(written({}, {}, []).words(), ["done"])

    def test_order_of_the_checks(self):
        self.refused(BadOperations, lambda: written({"a": 7}, {"a": 7}, [None]))
        self.refused(BadSizes, lambda: written({"a": 6}, {"a": 7}, [None]))
        many = [("ask", name, "die") for name in "abcde"]
        sizes = {name: 6 for name in "abcde"}
        self.refused(BadProgram, lambda: written(OPERATIONS, sizes, many + [("set", "a", 6)]), (5,))
        self.refused(TooMany, lambda: written(OPERATIONS, sizes, many + [("set", "a", 5)]), 4000)


class RefusedPrograms(Checks):
    def wrong(self, block, place, sizes=SIZES):
        """The block is refused for the statement at this place."""
        error = self.refused(BadProgram, lambda: written(OPERATIONS, sizes, block), place)
        self.assertIs(type(error.place), tuple)

    def test_no_block(self):
        for block in NO_ROWS:
            self.wrong(block, ())

    def test_no_statement_of_the_table(self):
        plain = [("ask", "x", "coin"), ("set", "x", 0), ("copy", "x", "y"), ("turn", "x"), ("when", "x", 0, [], []),
                 ("same", "x", "y", [], []), ("loop", []), ("leave",), ("again",), ("end", "good")]
        wrong = NO_ROWS + ROWS + ["leave", ("go", 0), ("Set", "x", 0), ("", "x"), (b"leave",), (None,), (["leave"],), ({},)]
        for statement in plain:
            written(OPERATIONS, SIZES, [("loop", [statement])])
            wrong += [statement[:-1], statement + ([],), (statement,), statement[0].upper(), statement[1:]]
        for statement in wrong:
            self.wrong([("loop", [("turn", "x"), statement, None])], (0, 0, 1))
            self.wrong((("turn", "x"), statement), (1,))

    def test_no_variable(self):
        for name in NO_NAMES + ["w", "coin", None]:
            for statement in (("set", name, 0), ("copy", name, "x"), ("copy", "x", name), ("turn", name),
                              ("when", name, 0, [], []), ("same", name, "x", [], []), ("same", "x", name, [], [])):
                self.wrong([("turn", "x"), statement], (1,))
            if name is not None:
                self.wrong([("ask", name, "coin")], (0,))

    def test_no_operation(self):
        for operation in NO_NAMES + ["x", "other"]:
            self.wrong([("ask", "x", operation)], (0,))
            self.wrong([("ask", None, operation)], (0,))

    def test_what_a_variable_cannot_hold(self):
        for k in NO_INTEGERS + INTEGERS + [2, -1]:
            self.wrong([("set", "x", k)], (0,))
            self.wrong([("when", "x", k, [], [])], (0,))
        self.wrong([("set", "z", 6)], (0,))
        written(OPERATIONS, SIZES, [("set", "x", 1), ("when", "z", 5, [], [])])

    def test_variables_that_are_too_small(self):
        sizes = {"one": 1, "two": 2, "five": 5, "six": 6}
        for name, size in sizes.items():
            for operation, many in OPERATIONS.items():
                if size < many:
                    self.wrong([("ask", name, operation)], (0,), sizes)
                else:
                    written(OPERATIONS, sizes, [("ask", name, operation)])
            for other, least in sizes.items():
                if size < least:
                    self.wrong([("copy", name, other)], (0,), sizes)
                else:
                    written(OPERATIONS, sizes, [("copy", name, other)])
                written(OPERATIONS, sizes, [("same", name, other, [], [])])

    def test_no_loop_around(self):
        for word in ("leave", "again"):
            self.wrong([(word,)], (0,))
            self.wrong([("loop", []), ("when", "x", 0, [], [("turn", "x"), (word,)])], (1, 1, 1))
            self.wrong([("same", "x", "y", [("loop", [(word,)]), (word,)], [])], (0, 0, 1))
            written(OPERATIONS, SIZES, [("loop", [("when", "x", 0, [("same", "x", "y", [(word,)], [])], [])])])

    def test_blocks_that_are_no_rows(self):
        for block in NO_ROWS:
            self.wrong([("loop", block)], (0,))
            self.wrong([("when", "x", 0, block, [])], (0,))
            self.wrong([("when", "x", 0, [], block)], (0,))
            self.wrong([("same", "x", "y", block, [])], (0,))
            self.wrong([("same", "x", "y", [], block)], (0,))

    def test_no_word(self):
        for word in NO_NAMES:
            self.wrong([("end", word)], (0,))

    def test_places(self):
        bad = ("end", "")
        self.wrong([("loop", [("turn", "x"), ("when", "x", 0, [], [("turn", "x"), ("same", "x", "y", [bad], [])])])],
                   (0, 0, 1, 1, 1, 0, 0))
        self.wrong([("when", "x", 0, [("turn", "x"), bad], [])], (0, 0, 1))
        self.wrong([("turn", "x"), ("turn", "x"), bad], (2,))

    def test_the_first_in_reading_order(self):
        bad = ("end", "")
        self.wrong([("when", "x", 2, [bad], [bad]), bad], (0,))
        self.wrong([("when", "x", 1, [("turn", "x")], [bad]), bad], (0, 1, 0))
        self.wrong([("when", "x", 1, [("loop", [bad])], [bad]), bad], (0, 0, 0, 0, 0))
        self.wrong([("when", "x", 1, [bad], None), bad], (0,))
        self.wrong([("loop", [("loop", [])]), bad, bad, None], (1,))
        self.wrong([("end", "on"), bad], (1,))

    def test_200_statements(self):
        turns = [("turn", "x")] * 200
        self.assertEqual(written(OPERATIONS, SIZES, turns).words(), ["done"])
        self.wrong(turns + [("turn", "x")], (200,))
        self.wrong([("turn", "x")] * 10000, (200,))
        self.wrong(turns + [None], (200,))
        self.wrong(turns[:199] + [None, ("turn", "x")], (199,))
        held = [("when", "x", 0, turns[:99], turns[:99])]
        written(OPERATIONS, SIZES, held + [("turn", "x")])
        self.wrong(held + [("turn", "x"), ("turn", "x")], (2,))
        self.wrong([("when", "x", 0, turns[:99], turns[:101])], (0, 1, 100))
        self.wrong([("loop", [("loop", turns[:100]), ("loop", turns[:98])])], (0, 0, 1, 0, 97))

    def test_blocks_within_one_another(self):
        holders = [lambda block: ("loop", block), lambda block: ("when", "x", 0, block, []),
                   lambda block: ("same", "x", "y", [], block)]
        for at in range(3):
            inner = []
            for depth in range(7):
                inner = [holders[(at + depth) % 3](inner)]
            written(OPERATIONS, SIZES, inner)
        for many in (6, 7, 8, 90):
            block = nested(many, lambda inner: [("loop", inner)], [("end", "deep")])
            if many == 6:
                self.assertEqual(written(OPERATIONS, SIZES, block).words(), ["deep"])
            else:
                self.wrong(block, (0,) + (0, 0) * 7)
        block = nested(7, lambda inner: [("turn", "x"), ("when", "x", 0, [], inner)], [("end", "deep")])
        self.wrong(block, (1,) + (1, 1) * 6 + (1, 0))

    def test_deep_things_that_are_wrong(self):
        for thing in (nested(88, lambda inner: [inner], []), nested(88, lambda inner: (inner,), ()),
                      nested(88, lambda inner: {"a": inner}, {}), nested(44, lambda inner: ["again", [inner]], [])):
            for statement in (thing, ("set", "x", thing), ("ask", thing, "coin"), ("ask", None, thing), ("end", thing)):
                self.wrong([statement], (0,))
        self.wrong(nested(44, lambda inner: [["loop", inner]], None), (0,) + (0, 0) * 7)


class Many(Checks):
    """Programs whose numbers of configurations are known."""

    SIZES = {name: 6 for name in "abcdef"}

    def block(self, ahead, behind):
        """Statements at which ahead + 3930 configurations stand; with 36 of them the block behind begins."""
        asks = [("ask", name, "die") for name in "abcd"]
        return [("set", "e", 0)] * (ahead - 1) + asks + [("turn", "a"), ("set", "d", 0)] + [("turn", "a")] * 4 + [
            ("set", "c", 0)] + behind

    def just(self, block, words):
        """The block has just 4,000 configurations, and one more with a statement ahead."""
        self.assertEqual(Written(OPERATIONS, self.SIZES, block).count(), 4000)
        self.assertEqual(written(OPERATIONS, self.SIZES, block).words(), words)
        for more in ([("set", "e", 0)], [("turn", "e")], [("copy", "e", "f")] * 2, [("ask", None, "dot")]):
            self.refused(TooMany, lambda: written(OPERATIONS, self.SIZES, more + block), 4000)

    def test_just_4000(self):
        self.just(self.block(69, []), ["done"])
        self.just(self.block(33, [("turn", "a")]), ["done"])
        self.just(self.block(34, [("end", "on")]), ["on"])
        self.just(self.block(33, [("when", "e", 0, [], [("end", "no")])]), ["done"])
        self.just(self.block(34, [("loop", [])]), [])
        self.assertEqual(shown(written(OPERATIONS, self.SIZES, self.block(69, [])), [("die", 3)] * 4), ("end", "done"))

    def test_each_statement_that_is_come_to_counts(self):
        turns = [("turn", "a")] * 50
        for many, statement in (
                (1, ("when", "f", 1, turns, [])), (1, ("same", "e", "f", [], turns)), (1, ("ask", None, "coin")),
                (2, ("loop", [("leave",)])), (2, ("loop", [("leave",), ("turn", "a")])),
                (2, ("when", "f", 0, [("ask", None, "dot")], [])), (2, ("same", "f", "e", [("turn", "f")], turns)),
                (3, ("loop", [("when", "f", 0, [("leave",)], [("again",)])])),
                (4, ("loop", [("turn", "f"), ("when", "f", 0, [], [("leave",)]), ("end", "no")])),
                (7, ("loop", [("when", "f", 0, [("turn", "f"), ("again",)], [("leave",)]), ("end", "no")]))):
            self.just([statement] + self.block(69 - many, []), ["done"])

    def test_what_no_run_comes_to_does_not_count(self):
        asks = [("ask", name, "die") for name in "abcdef"]
        self.refused(TooMany, lambda: written(OPERATIONS, self.SIZES, asks), 4000)
        unmet = [("when", "e", 1, asks, []), ("end", "on")]
        self.assertEqual(written(OPERATIONS, self.SIZES, unmet + asks).words(), ["on"])
        self.assertEqual(written(OPERATIONS, self.SIZES, [("ask", "a", "fail")] + asks).asked(), ["fail"])
        self.assertTrue(written(OPERATIONS, self.SIZES, [("loop", [])] + asks).hangs())

    def test_far_too_many(self):
        loop = [("loop", [("ask", name, "die") for name in "abcdef"] + [("turn", name) for name in "abcdef"])]
        self.refused(TooMany, lambda: written(OPERATIONS, self.SIZES, loop), 4000)


if __name__ == "__main__":
    unittest.main()
