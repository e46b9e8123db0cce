"""Section 4: bodies, told and refused."""

import copy
import random
import unittest

from askfurther.bodies import Body, shown
from askfurther.errors import BadBody, BadHistory, BadOperations, BadStart, NoRow
from tests.checks import Checks
from tests.models import histories, random_rows, shown_by_rows
from tests.odd import NO_INTEGERS, NO_NAMES, NO_OPERATIONS, NO_ROWS, NOTHINGS, DICTS, INTEGERS, ROWS, nested

OPERATIONS = {"coin": 2, "fail": 0}
ROWS_OF_TOSS = [("ask", "coin", (1, 2)), ("ask", "coin", (0, 3)), ("end", "good"), ("ask", "fail", ())]


def toss():
    return Body(OPERATIONS, ROWS_OF_TOSS)


def as_lists(rows):
    return [[list(part) if isinstance(part, tuple) else part for part in row] for row in rows]


class Examples(unittest.TestCase):
    def test_section_4(self):
        body = toss()
        self.assertEqual(shown(body, []), ("ask", "coin"))
        self.assertEqual(shown(body, [("coin", 1)]), ("end", "good"))
        self.assertEqual(shown(body, [("coin", 0), ("coin", 1)]), ("ask", "fail"))
        self.assertEqual((body.asked(), body.words(), body.hangs()), (["coin", "fail"], ["good"], False))
        self.assertIs("fail" in body, True)
        self.assertEqual(shown(body.then({"good": body}), [("coin", 1), ("coin", 1)]), ("end", "good"))


class Told(Checks):
    def test_parts_are_told_as_handed_in(self):
        for rows in (ROWS_OF_TOSS, tuple(ROWS_OF_TOSS), as_lists(ROWS_OF_TOSS), tuple(as_lists(ROWS_OF_TOSS))):
            body = Body(OPERATIONS, rows, start=1)
            self.assertEqual(body.operations(), OPERATIONS)
            self.assertEqual(body.rows(), ROWS_OF_TOSS)
            self.assertIs(type(body.rows()), list)
            self.assertEqual(body.start, 1)
            self.assertEqual(len(body), 4)
            for row in body.rows():
                self.assertIs(type(row), tuple)
                if len(row) == 3:
                    self.assertIs(type(row[2]), tuple)
            self.assertEqual([body[index] for index in range(4)], ROWS_OF_TOSS)
        self.assertEqual(Body({}, [["go", 0]]).rows(), [("go", 0)])

    def test_start_is_0_if_none_is_told(self):
        self.assertEqual(toss().start, 0)

    def test_arguments_by_place_and_by_name(self):
        self.assertEqual(Body(operations=OPERATIONS, rows=ROWS_OF_TOSS, start=0), toss())
        with self.assertRaises(TypeError):
            Body(OPERATIONS, ROWS_OF_TOSS, 0)
        self.assertEqual(shown(body=toss(), history=[]), ("ask", "coin"))
        self.assertEqual(toss().then(others={}).asked(), ["coin", "fail"])

    def test_no_row(self):
        body = toss()
        for index in NO_INTEGERS + INTEGERS + [-1, -4, 4, 400]:
            error = self.refused(NoRow, lambda: body[index], index)
            self.assertIs(error.index, index)
        self.refused(NoRow, lambda: body[0:1], slice(0, 1))
        self.refused(NoRow, lambda: body[0, 1], (0, 1))

    def test_equality(self):
        body = toss()
        self.assertTrue(body == Body({"fail": 0, "coin": 2}, as_lists(ROWS_OF_TOSS)))
        self.assertFalse(body != Body(OPERATIONS, ROWS_OF_TOSS, start=0))
        unlike = [
            Body({"coin": 2, "fail": 0, "more": 1}, ROWS_OF_TOSS), Body(OPERATIONS, ROWS_OF_TOSS, start=1),
            Body(OPERATIONS, ROWS_OF_TOSS + [("end", "good")]),
            Body(OPERATIONS, ROWS_OF_TOSS[:2] + [("end", "bad")] + ROWS_OF_TOSS[3:]),
            Body({"coin": 2}, [("ask", "coin", (1, 0)), ("end", "good")]),
        ]
        for other in unlike + NOTHINGS + ROWS + DICTS + [ROWS_OF_TOSS, (OPERATIONS, ROWS_OF_TOSS, 0)]:
            self.assertFalse(body == other)
            self.assertTrue(body != other)
            self.assertFalse(other == body)

    def test_bodies_are_not_iterated_over(self):
        with self.assertRaises(TypeError):
            iter(toss())
        with self.assertRaises(TypeError):
            list(toss())

    def test_start_stays(self):
        with self.assertRaises(AttributeError):
            toss().start = 1


class Unchanged(unittest.TestCase):
    def test_what_was_handed_in_may_be_changed(self):
        operations = dict(OPERATIONS)
        rows = as_lists(ROWS_OF_TOSS)
        body = Body(operations, rows)
        operations["coin"] = 1
        operations["more"] = 3
        rows[0][2][1] = 0
        rows[2][1] = "bad"
        rows.pop()
        self.assertEqual(body, toss())
        self.assertEqual(shown(body, [("coin", 1)]), ("end", "good"))
        self.assertEqual(body.words(), ["good"])

    def test_what_was_told_may_be_changed(self):
        body = toss()
        body.operations()["coin"] = 1
        body.operations().clear()
        body.rows()[0] = ("end", "bad")
        body.rows().clear()
        body.asked().clear()
        body.words().append("bad")
        self.assertEqual(body, toss())
        self.assertEqual((body.asked(), body.words(), len(body)), (["coin", "fail"], ["good"], 4))
        self.assertEqual(body.operations(), OPERATIONS)

    def test_no_call_changes_its_arguments(self):
        operations, rows, history = dict(OPERATIONS), as_lists(ROWS_OF_TOSS), [["coin", 0], ["coin", 0]]
        body = Body(operations, rows)
        others = {"good": body}
        body.then(others)
        shown(body, history)
        self.assertEqual((operations, rows), (OPERATIONS, as_lists(ROWS_OF_TOSS)))
        self.assertEqual(history, [["coin", 0], ["coin", 0]])
        self.assertEqual((list(others), body), (["good"], toss()))

    def test_order_of_keys_means_nothing(self):
        other = Body({"fail": 0, "coin": 2}, ROWS_OF_TOSS)
        self.assertEqual(list(other.operations()), list(toss().operations()))


class Refused(Checks):
    def test_bad_operations(self):
        for operations in NO_OPERATIONS:
            self.refused(BadOperations, lambda: Body(operations, [("go", 0)]))

    def test_bounds_of_operations(self):
        eight = {"abcdefgh"[at:]: at % 7 for at in range(8)}
        self.assertEqual(Body(eight, [("go", 0)]).operations(), eight)
        self.refused(BadOperations, lambda: Body({**eight, "z": 1}, [("go", 0)]))
        self.assertEqual(Body({}, [("go", 0)]).operations(), {})
        rows = [("ask", "six", (0,) * 6), ("ask", "none", [])]
        self.assertEqual(Body({"six": 6, "none": 0}, rows).asked(), ["six"])
        self.refused(BadOperations, lambda: Body({"seven": 7}, [("go", 0)]))
        self.refused(BadOperations, lambda: Body({"less": -1}, [("go", 0)]))
        self.assertEqual(len(Body({"a": 1, "abcdefgh": 1}, [("ask", "abcdefgh", [0])])), 1)

    def test_no_row_of_rows(self):
        for rows in NO_ROWS + [[], (), [("go", 0)] * 401, (("go", 0),) * 10000, [None] * 401]:
            self.refused(BadBody, lambda: Body(OPERATIONS, rows), -1)
        self.assertEqual(len(Body({}, [("go", 0)])), 1)
        self.assertEqual(len(Body({}, [("go", 399)] * 400)), 400)

    def test_bad_rows(self):
        wrong = [("ask", name, (0, 0)) for name in NO_NAMES + ["fail", "other"]]
        wrong += [("ask", "coin", nexts) for nexts in NO_ROWS + [[], (0,), (0, 0, 0), (0,) * 10000, [[], []]]]
        for index in NO_INTEGERS + INTEGERS + [3, -3, 400]:
            wrong += [("ask", "coin", (0, index)), ["ask", "coin", [index, 0]], ("go", index), ["go", index]]
        wrong += [("end", word) for word in NO_NAMES]
        wrong += [
            ("ask", "coin"), ("ask",), ("ask", "coin", (0, 0), 0), ("ask", "fail", (0,)), ("end",), ("go",), ("go", 0, 0),
            ("end", "good", "good"), ("finish", "good"), ("answer", 0, "a"), ("END", "good"), ("", 0), (b"go", 0),
            (None, 0), (["go"], 0), ("end", "abcdefghi"), ("end", ""), "go", ("hang",), {"go": 0}, ({}, 0), (SMALL_DEEP, 0),
        ]
        wrong += NO_ROWS + ROWS
        for row in wrong:
            self.refused(BadBody, lambda: Body(OPERATIONS, [("end", "good"), row, ("go", 0)]), 1)
            self.refused(BadBody, lambda: Body(OPERATIONS, (row, row, row)), 0)

    def test_bounds_of_rows(self):
        rows = [("end", "abcdefgh"), ("end", "z"), ["ask", "coin", [3, 0]], ("go", 3)]
        self.assertEqual(Body(OPERATIONS, rows).words(), ["abcdefgh"])
        self.refused(BadBody, lambda: Body(OPERATIONS, rows[:3]), 2)

    def test_bad_start(self):
        for start in NO_INTEGERS + INTEGERS + [4, 400, -4]:
            error = self.refused(BadStart, lambda: Body(OPERATIONS, ROWS_OF_TOSS, start=start), start)
            self.assertIs(error.index, start)
        self.assertEqual(Body(OPERATIONS, ROWS_OF_TOSS, start=3).asked(), ["fail"])

    def test_order_of_the_checks(self):
        self.refused(BadOperations, lambda: Body({"coin": 7}, [None], start=-1))
        self.refused(BadOperations, lambda: Body(None, None, start=None))
        self.refused(BadBody, lambda: Body(OPERATIONS, [("go", 2), ("go", 3), None], start=-1), 1)
        self.refused(BadBody, lambda: Body(OPERATIONS, None, start=True), -1)
        self.refused(BadBody, lambda: Body(OPERATIONS, [], start=0), -1)


SMALL_DEEP = nested(80, lambda thing: (thing,), ())


class Met(unittest.TestCase):
    def told(self, operations, rows, start=0):
        body = Body(operations, rows, start=start)
        for operation in operations:
            self.assertIs(operation in body, operation in body.asked())
        return body.asked(), body.words(), body.hangs()

    def test_only_what_some_run_comes_to(self):
        rows = [("ask", "b", (2, 0)), ("ask", "a", (3,)), ("end", "yes"), ("go", 3), ("end", "no")]
        self.assertEqual(self.told({"a": 1, "b": 2, "c": 1}, rows), (["b"], ["yes"], False))
        self.assertEqual(self.told({"a": 1, "b": 2, "c": 1}, rows, 1), (["a"], [], True))
        self.assertEqual(self.told({"a": 1, "b": 2, "c": 1}, rows, 4), ([], ["no"], False))

    def test_rings_of_go_rows(self):
        rows = [("go", 1), ("go", 2), ("go", 3), ("go", 1), ("end", "out"), ("ask", "a", (4, 0)), ("go", 6)]
        self.assertEqual(self.told({"a": 2}, rows), ([], [], True))
        self.assertEqual(self.told({"a": 2}, rows, 5), (["a"], ["out"], True))
        self.assertEqual(self.told({"a": 2}, rows, 6), ([], [], True))
        self.assertEqual(self.told({"a": 2}, rows, 4), ([], ["out"], False))

    def test_asking_for_ever_is_no_hang(self):
        self.assertEqual(self.told({"a": 1}, [("go", 1), ("ask", "a", [0])]), (["a"], [], False))

    def test_operations_without_answers(self):
        self.assertEqual(self.told({"a": 0, "b": 1}, [("ask", "a", ()), ("ask", "b", [0])]), (["a"], [], False))

    def test_words_and_operations_are_sorted_and_told_once(self):
        rows = [("ask", "z", (1, 2, 3)), ("ask", "a", (4, 5, 6)), ("end", "z"), ("end", "a"), ("end", "z"),
                ("ask", "z", (0, 0, 0)), ("end", "ab")]
        self.assertEqual(self.told({"z": 3, "a": 3}, rows), (["a", "z"], ["a", "ab", "z"], False))

    def test_other_objects_are_not_in_a_body(self):
        for thing in NO_NAMES + ["good", "other", "ask"]:
            self.assertIs(thing in toss(), False)

    def test_long_chains(self):
        rows = [("go", at + 1) for at in range(399)]
        self.assertEqual(self.told({}, rows + [("end", "far")]), ([], ["far"], False))
        self.assertEqual(self.told({}, rows + [("go", 200)]), ([], [], True))
        backward = [("end", "far")] + [("go", at) for at in range(399)]
        self.assertEqual(self.told({}, backward, 399), ([], ["far"], False))

    def test_many_bodies(self):
        chance = random.Random(4)
        for _ in range(400):
            many = chance.randrange(1, 9)
            operations = {"a": 2, "b": 1, "c": 0}
            body = Body(operations, random_rows(chance, operations, many, ["x", "y"]), start=chance.randrange(many))
            shows = {told for _, told in histories(body, lambda history: shown_by_rows(body, history), 9)}
            self.assertEqual(body.asked(), sorted(told[1] for told in shows if told[0] == "ask"))
            self.assertEqual(body.words(), sorted(told[1] for told in shows if told[0] == "end"))
            self.assertIs(body.hangs(), ("hang",) in shows)


class Shown(Checks):
    def test_many_bodies(self):
        chance = random.Random(5)
        operations = {"a": 2, "b": 1, "c": 0, "d": 3}
        for _ in range(300):
            many = chance.randrange(1, 12)
            body = Body(operations, random_rows(chance, operations, many, ["x", "y"]), start=chance.randrange(many))
            for history, shows in histories(body, lambda history: shown_by_rows(body, history), 4):
                self.assertEqual(shown(body, history), shows)
                self.assertEqual(shown(body, [list(told) for told in history]), shows)

    def test_bad_history(self):
        for history in NO_ROWS:
            self.refused(BadHistory, lambda: shown(toss(), history), -1)
        self.refused(BadHistory, lambda: shown(toss(), ("coin", 0)), 0)

    def test_elements_that_cannot_come(self):
        wrong = NO_ROWS + ROWS + [("coin", answer) for answer in NO_INTEGERS + INTEGERS + [2, -2]]
        wrong += [(operation, 0) for operation in NO_NAMES + ["fail", "other"]]
        wrong += [("coin",), ("coin", 0, 0), [], ["coin"], "coin", ("fail", 0)]
        for told in wrong:
            self.refused(BadHistory, lambda: shown(toss(), [told]), 0)
            self.refused(BadHistory, lambda: shown(toss(), [("coin", 0), ["coin", 0], told, told, None]), 2)

    def test_nothing_comes_behind_an_end_a_hang_or_no_answers(self):
        body = Body({"a": 4, "b": 0}, [("ask", "a", (1, 2, 3, 5)), ("end", "good"), ("go", 2), ("ask", "b", ()), ("go", 2),
                                       ("go", 4)])
        shows = [("end", "good"), ("hang",), ("ask", "b"), ("hang",)]
        for answer in range(4):
            self.assertEqual(shown(body, [("a", answer)]), shows[answer])
            for told in (("a", 0), ("b", 0), ("hang",), ("end", "good"), None):
                self.refused(BadHistory, lambda: shown(body, [("a", answer), told]), 1)

    def test_words_and_operations_may_share_names(self):
        body = Body({"coin": 1, "good": 1}, [("ask", "good", (1,)), ("end", "coin")])
        self.assertEqual((body.asked(), body.words(), "coin" in body), (["good"], ["coin"], False))
        self.refused(BadHistory, lambda: shown(body, [("good", 0), ("coin", 0)]), 1)

    def test_long_histories(self):
        history = [("coin", 0)] * 10000
        self.assertEqual(shown(toss(), history), ("ask", "coin"))
        self.assertEqual(shown(toss(), history[:9999] + [["coin", 1]]), ("ask", "fail"))
        self.refused(BadHistory, lambda: shown(toss(), history[:9999] + [("fail", 1)]), 9999)

    def test_long_chains_and_rings(self):
        chain = [("go", at + 1) for at in range(398)]
        body = Body({"a": 2}, chain + [("ask", "a", (0, 399)), ("go", 390)])
        self.assertEqual(shown(body, [("a", 0), ("a", 1)] * 5000), ("ask", "a"))
        ring = Body({"a": 2}, chain + [("go", 7), ("ask", "a", (399, 5))], start=399)
        self.assertEqual(shown(ring, [("a", 0)] * 5000 + [("a", 1)]), ("hang",))

    def test_start_counts(self):
        self.assertEqual(shown(Body(OPERATIONS, ROWS_OF_TOSS, start=2), []), ("end", "good"))
        self.assertEqual(shown(Body(OPERATIONS, ROWS_OF_TOSS, start=3), ()), ("ask", "fail"))

    def test_bodies_may_be_copied(self):
        self.assertEqual(copy.deepcopy(toss()), toss())


if __name__ == "__main__":
    unittest.main()
