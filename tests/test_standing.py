"""Section 11: where a body stands."""

import random
import time
import unittest

from askfurther.bodies import Body, shown
from askfurther.errors import AskError, BadAnswer, BadChoices, BadCount, Mismatch, NoOperation
from askfurther.likeness import parted
from askfurther.standing import Run, Stand, alike_from, played, tried, tried_within
from tests.checks import Checks
from tests.models import histories, random_rows, shown_by_rows
from tests.odd import DICTS, INTEGERS, NO_INTEGERS, NO_NAMES, NO_ROWS, NOTHINGS, ROWS

COUNTS = {"a": 2, "b": 1, "c": 0, "d": 3}
TOSS = Body({"coin": 2, "fail": 0}, [("ask", "coin", (1, 2)), ("ask", "coin", (0, 3)), ("end", "good"), ("ask", "fail", ())])
NO_ANSWERS = NO_INTEGERS + INTEGERS + [-1, 2, 3, -2, 6]


def drawn(chance, many=6):
    return Body(COUNTS, random_rows(chance, COUNTS, many, ["x", "y"]), start=chance.randrange(many))


def behind(kind, body, history):
    """The stand, or the run, behind a history."""
    held = kind(body)
    for _, answer in history:
        if kind is Run:
            held.go_on(answer)
        else:
            held = held(answer)
    return held


class Stands(Checks):
    def test_drawn(self):
        chance = random.Random(121)
        for _ in range(100):
            body = drawn(chance)
            for history, shows in histories(body, lambda history: shown_by_rows(body, history), 4):
                stand = behind(Stand, body, history)
                self.assertEqual((stand.shows, stand.past, len(stand)), (shows, history, len(history)))
                self.assertEqual((type(stand.shows), type(stand.past)), (tuple, tuple))
                run = behind(Run, body, history)
                self.assertEqual((run.shows, run.past), (shows, history))

    def test_all_ways_are_gone_on_with_from_one_stand(self):
        first = Stand(TOSS)(0)
        again = [first(answer) for answer in (0, 1, 0, 1)]
        self.assertEqual([stand.shows for stand in again], [("ask", "coin"), ("ask", "fail")] * 2)
        self.assertEqual([stand.past for stand in again], [(("coin", 0), ("coin", answer)) for answer in (0, 1, 0, 1)])
        self.assertEqual((first.past, first.shows, len(first)), ((("coin", 0),), ("ask", "coin"), 1))
        self.assertIs(type(again[0]), Stand)
        self.assertEqual((len(Stand(TOSS)), Stand(TOSS).past), (0, ()))
        self.assertEqual(Stand(body=TOSS)(answer=1).shows, ("end", "good"))

    def test_bad_answers(self):
        for history in ((), (("coin", 0),)):
            stand, run = behind(Stand, TOSS, history), behind(Run, TOSS, history)
            for answer in NO_ANSWERS:
                for held in (stand, run):
                    call = held if held is stand else held.go_on
                    error = self.refused(BadAnswer, lambda: call(answer), answer)
                    self.assertIs(error.answer, answer)
                    self.assertEqual(held.past, history)
        hang = Body({}, [("go", 0)])
        for body, history in ((TOSS, [("coin", 1)]), (TOSS, [("coin", 0), ("coin", 1)]), (hang, [])):
            for answer in NO_ANSWERS + [0, 1]:
                self.refused(BadAnswer, lambda: behind(Stand, body, history)(answer), answer)
                self.refused(BadAnswer, lambda: behind(Run, body, history).go_on(answer), answer)

    def test_equality(self):
        again = Body({"fail": 0, "coin": 2}, [list(row) for row in TOSS.rows()])
        stands = [Stand(TOSS), Stand(TOSS)(0), Stand(TOSS)(1), Stand(TOSS)(0)(0)]
        for one, stand in enumerate(stands):
            self.assertTrue(stand == behind(Stand, again, stand.past))
            self.assertFalse(stand != behind(Stand, TOSS, stand.past))
            for two, other in enumerate(stands):
                self.assertEqual(stand == other, one == two)
        # The same row and the same shows behind another history, or in a body that is alike, are another stand.
        self.assertFalse(Stand(TOSS) == Stand(TOSS)(0)(0))
        unlike = Body(TOSS.operations(), TOSS.rows() + [("go", 0)])
        self.assertFalse(Stand(TOSS) == Stand(unlike))
        self.assertFalse(Stand(TOSS) == Stand(Body(TOSS.operations(), TOSS.rows(), start=1)))
        for other in NOTHINGS + INTEGERS + ROWS + DICTS + [TOSS, Run(TOSS), (), ("ask", "coin")]:
            self.assertFalse(Stand(TOSS) == other)
            self.assertTrue(Stand(TOSS) != other)
            self.assertFalse(other == Stand(TOSS))

    def test_alike_from(self):
        chance = random.Random(122)
        found = set()
        for _ in range(150):
            one = drawn(chance, 5)
            rows = one.rows()
            rows[chance.randrange(5)] = random_rows(chance, COUNTS, 5, ["x", "y"])[0]
            other = Body(COUNTS, rows, start=one.start)
            places = [behind(Stand, body, history) for body in (one, other)
                      for history, _ in histories(body, lambda history: shown(body, history), 2)]
            for stand in places[:5]:
                for further in places:
                    # The same is told by bodies that start where the stands are.
                    starts = [started(*pair) for pair in ((stand.body, stand.past), (further.body, further.past))]
                    self.assertIs(alike_from(stand, further), parted(*starts) is None)
                    found.add(alike_from(stand, further))
        self.assertEqual(found, {True, False})

    def test_alike_from_counts_what_comes_from_there_on_alone(self):
        self.assertIs(alike_from(Stand(TOSS), Stand(TOSS)(0)(0)), True)
        self.assertIs(alike_from(Stand(TOSS), Stand(TOSS)(0)), False)
        one, other = Body({"a": 2}, [("ask", "a", (1, 2)), ("end", "x"), ("end", "y")]), Body({"a": 2}, [("ask", "a", (1, 1)), ("end", "x")])
        self.assertIs(alike_from(one=Stand(one)(0), other=Stand(other)(1)), True)
        self.assertIs(alike_from(Stand(one)(1), Stand(other)(1)), False)

    def test_alike_from_raises_mismatch(self):
        other = Body({"coin": 3, "fail": 1, "also": 1}, [("ask", "fail", (1,)), ("end", "good")])
        for stand in (Stand(TOSS), Stand(TOSS)(1)):
            for further in (Stand(other), Stand(other)(0)):
                self.refused(Mismatch, lambda: alike_from(stand, further), "coin")
                self.refused(Mismatch, lambda: alike_from(further, stand), "coin")


def started(body, history):
    """The body, started at the row to which a history leads; it asks what is asked there first."""
    at = body.start
    rows = body.rows()
    for _, answer in history:
        while rows[at][0] == "go":
            at = rows[at][1]
        at = rows[at][2][answer]
    return Body(body.operations(), rows, start=at)


class Played(Checks):
    def plainly(self, body, past, choices):
        """Goes on by choices from behind a history."""
        history, left = tuple(past), list(choices)
        while True:
            shows = shown_by_rows(body, history)
            many = body.operations()[shows[1]] if shows[0] == "ask" else 0
            if not left or many == 0:
                return history, shows
            history += ((shows[1], left.pop(0) % many),)

    def test_drawn(self):
        chance = random.Random(123)
        for _ in range(300):
            body = drawn(chance)
            choices = [chance.randrange(12) for _ in range(chance.randrange(8))]
            self.assertEqual(played(body, choices), self.plainly(body, (), choices))
            self.assertEqual(played(body, tuple(choices)), played(body, choices))
            for history, _ in histories(body, lambda history: shown(body, history), 2):
                run = behind(Run, body, history)
                run["a"] = 1
                self.assertEqual(tried(run, choices), self.plainly(body, history, choices))
                self.assertEqual((run.past, run.shows, run["a"]), (history, shown(body, history), 1))

    def test_great_choices_and_many(self):
        self.assertEqual(played(TOSS, [10 ** 30 - 2, 10 ** 29 + 1]), ((("coin", 0), ("coin", 1)), ("ask", "fail")))
        self.assertEqual(played(TOSS, []), ((), ("ask", "coin")))
        self.assertEqual(len(played(TOSS, [0] * 1000)[0]), 1000)
        self.assertEqual(played(body=TOSS, choices=(3, 5)), ((("coin", 1),), ("end", "good")))
        self.assertEqual(tried(run=Run(TOSS), choices=[2, 3]), ((("coin", 0), ("coin", 1)), ("ask", "fail")))
        hang, end = Body({}, [("go", 0)]), Body({}, [("end", "x")])
        self.assertEqual((played(hang, [1]), played(end, [1])), (((), ("hang",)), ((), ("end", "x"))))

    def test_bad_choices(self):
        run = behind(Run, TOSS, [("coin", 0)])
        for call in (lambda choices: played(TOSS, choices), lambda choices: tried(run, choices)):
            for choices in NO_ROWS:
                self.refused(BadChoices, lambda: call(choices), -1)
            for choice in NO_INTEGERS + [-1, -(10 ** 29)]:
                self.refused(BadChoices, lambda: call([choice]), 0)
                # All choices are looked at, also those behind an end.
                self.refused(BadChoices, lambda: call((1, 1, 1, choice, -1)), 3)
        self.assertEqual((run.past, run.shows), ((("coin", 0),), ("ask", "coin")))


class Runs(Checks):
    def test_go_on_changes_the_run_alone(self):
        run, other = Run(TOSS), Run(body=TOSS)
        past = run.past
        self.assertIsNone(run.go_on(0))
        self.assertIsNone(run.go_on(answer=0))
        self.assertEqual((run.past, past, other.past), ((("coin", 0), ("coin", 0)), (), ()))
        self.assertEqual(run.shows, ("ask", "coin"))

    def test_runs_are_equal_to_themselves_alone(self):
        run = Run(TOSS)
        self.assertTrue(run == run)
        self.assertFalse(run != run)
        for other in NOTHINGS + ROWS + DICTS + [Run(TOSS), Stand(TOSS), TOSS]:
            self.assertFalse(run == other)
            self.assertTrue(run != other)

    def test_standing_answers(self):
        run = Run(TOSS)
        self.assertIsNone(run["coin"])
        self.assertIs("coin" in run, False)
        run["coin"] = 1
        self.assertEqual((run["coin"], "coin" in run, "fail" in run, run["fail"]), (1, True, False, None))
        run["coin"] = 0
        self.assertEqual((run["coin"], run.past), (0, ()))
        self.assertEqual(Run(TOSS)["coin"], None)
        for thing in NO_NAMES + ["good", "x", 0]:
            self.assertIsNone(run[thing])
            self.assertIs(thing in run, False)

    def test_wrong_standing_answers(self):
        run = Run(TOSS)
        run["coin"] = 1

        def keep(at, worth):
            run[at] = worth

        for thing in NO_NAMES + ["good", "toss"]:
            error = self.refused(NoOperation, lambda: keep(thing, 0), thing)
            self.assertIs(error.operation, thing)
            self.refused(NoOperation, lambda: keep(thing, None), thing)
        for answer in NO_ANSWERS:
            error = self.refused(BadAnswer, lambda: keep("coin", answer), answer)
            self.assertIs(error.answer, answer)
        for answer in NO_ANSWERS + [0]:
            self.refused(BadAnswer, lambda: keep("fail", answer), answer)
        self.assertEqual((run["coin"], "fail" in run, run.past), (1, False, ()))

    def test_run_by_standing_answers(self):
        chance = random.Random(124)
        for _ in range(300):
            body = drawn(chance)
            run = Run(body)
            held = {name: chance.randrange(many) for name, many in COUNTS.items() if many and chance.random() < 0.7}
            for name, answer in held.items():
                run[name] = answer
            most = chance.randrange(8)
            history, many = (), 0
            while many < most and shown(body, history)[0] == "ask" and shown(body, history)[1] in held:
                name = shown(body, history)[1]
                history, many = history + ((name, held[name]),), many + 1
            self.assertEqual((run(most), run.past, run.shows), (many, history, shown(body, history)))

    def test_bad_counts(self):
        run = Run(TOSS)
        run["coin"] = 0
        for most in NO_INTEGERS + INTEGERS + [-1, 1001, True]:
            error = self.refused(BadCount, lambda: run(most), most)
            self.assertIs(error.many, most)
        self.assertEqual(run.past, ())
        self.assertEqual((run(0), run(1000), run(most=1), len(run.past)), (0, 1000, 1, 1001))
        run["coin"] = 1
        self.assertEqual((run(10), run(10), run.shows), (1, 0, ("ask", "fail")))

    def test_blocks_within_one_another(self):
        run = Run(TOSS)
        run.go_on(0)
        with run as held:
            self.assertIs(held, run)
            run["coin"] = 0
            run.go_on(0)
            with run:
                run["coin"] = 1
                run.go_on(1)
                self.assertEqual((run.shows, run["coin"]), (("end", "good"), 1))
            self.assertEqual((run.past, run["coin"], run.shows), ((("coin", 0),) * 2, 0, ("ask", "coin")))
            with run, run:
                run(3)
            run.go_on(0)
            self.assertEqual(len(run.past), 3)
        self.assertEqual((run.past, run["coin"], "coin" in run), ((("coin", 0),), None, False))
        run.go_on(1)
        self.assertEqual(run.shows, ("ask", "fail"))

    def test_blocks_left_by_an_error_or_otherwise(self):
        run = Run(TOSS)
        for error in (ValueError("x"), AskError(), KeyError(1)):
            with self.assertRaises(type(error)) as caught:
                with run:
                    run.go_on(0)
                    run["coin"] = 1
                    raise error
            self.assertIs(caught.exception, error)
            self.assertEqual((run.past, "coin" in run), ((), False))
        for _ in range(2):
            with run:
                run.go_on(1)
                break
        self.assertEqual(run.past, ())

        def out():
            with run:
                run.go_on(1)
                return run.past

        self.assertEqual((out(), run.past), ((("coin", 1),), ()))

    def test_what_is_refused_changes_nothing(self):
        run = Run(TOSS)
        with self.assertRaises(BadAnswer):
            with run:
                run.go_on(0)
                run.go_on(5)
        self.assertEqual(run.past, ())


class TriedWithin(Checks):
    def test_drawn(self):
        chance = random.Random(125)
        for _ in range(300):
            body = drawn(chance)
            rows, history, told = [], (), [shown(body, ())]
            for _ in range(chance.randrange(5)):
                row = []
                while chance.random() < 0.6 and shown(body, history)[0] == "ask" and COUNTS[shown(body, history)[1]]:
                    name = shown(body, history)[1]
                    row.append(chance.randrange(COUNTS[name]))
                    history += ((name, row[-1]),)
                rows.append(row if chance.random() < 0.5 else tuple(row))
                told.insert(0, shown(body, history))
            run = Run(body)
            self.assertEqual(tried_within(run, rows), told)
            self.assertEqual(tried_within(run, tuple(rows)), told)
            self.assertEqual(run.past, ())

    def test_bad_answers_go_on_to_the_caller(self):
        run = behind(Run, TOSS, [("coin", 0)])
        run["coin"] = 1
        for rows in ([[5]], [[0], [0, None]], [[1, 0]], [[0], [0], [1], [True]], [[], [], ["1"]]):
            self.refused(BadAnswer, lambda: tried_within(run, rows), rows[-1][-1])
            self.assertEqual((run.past, run["coin"]), ((("coin", 0),), 1))
        for answer in NO_ANSWERS:
            error = self.refused(BadAnswer, lambda: tried_within(run, [[0], [answer]]), answer)
            self.assertIs(error.answer, answer)

    def test_bad_counts_ahead_of_all(self):
        run = Run(TOSS)
        for rows in NO_ROWS + [[[]] * 21, [[5]] * 21, [0], [[5], None], [[0], "0"], [[], {}], ((), 0)]:
            self.refused(BadCount, lambda: tried_within(run, rows), -1)
        for thing in NO_ROWS:
            self.refused(BadCount, lambda: tried_within(run, [[9], thing]), -1)
        self.assertEqual(tried_within(run, []), [("ask", "coin")])
        self.assertEqual(tried_within(answers=[[0]] * 20, run=run), [("ask", "coin")] * 21)
        told = tried_within(run, [[0, 1]])
        self.assertEqual((type(told), told), (list, [("ask", "fail"), ("ask", "coin")]))


class Large(unittest.TestCase):
    def test_long_histories_of_large_bodies(self):
        begun = time.monotonic()
        ring = Body({"a": 2}, [("ask", "a", [(at + 1) % 400, (at * 7 + 3) % 400]) for at in range(400)])
        chain = ring
        end = Body({"a": 2, "b": 2}, [("ask", "a" if at else "b", [at + 1, at + 1]) for at in range(399)] + [("end", "x")])
        for _ in range(3):
            chain = end.then({"x": chain})
        for body in (ring, chain):
            stand, run = Stand(body), Run(body)
            for name in body.operations():
                run[name] = 1
            self.assertEqual(run(1000), 1000)
            for _ in range(1000):
                stand = stand(1)
            self.assertEqual((stand.past, stand.shows, len(stand)), (run.past, run.shows, 1000))
            self.assertEqual(played(body, [1] * 1000), (run.past, run.shows))
            self.assertEqual(shown(body, run.past), run.shows)
            for _ in range(20):
                run(1000)
            self.assertEqual(len(tried(run, [0] * 1000)[0]), 22000)
            self.assertEqual(len(tried_within(run, [[0] * 500] * 20)), 21)
            self.assertEqual(len(run.past), 21000)
            self.assertIs(alike_from(stand, behind(Stand, body, run.past[:1000])), True)
        self.assertIs(alike_from(Stand(chain), Stand(chain)(0)), False)
        self.assertIs(alike_from(behind(Stand, chain, [("a", 0)] * 1197), Stand(ring)), True)
        self.assertLess(time.monotonic() - begun, 20)


if __name__ == "__main__":
    unittest.main()
