"""Section 12: all that can come, counted and numbered."""

import random
import time

from askfurther.bodies import Body, shown
from askfurther.errors import BadCount, BadHistory, Endless, NoIndex
from askfurther.likeness import least
from askfurther.outcomes import counted, first_to, index_of, is_finite, numbered, totals
from tests.alike import met_rows, rests
from tests.checks import Checks
from tests.models import histories, random_rows, shown_by_rows
from tests.odd import DICTS, INTEGERS, NO_INTEGERS, NO_ROWS, NOTHINGS, ROWS

COUNTS = {"a": 2, "b": 1, "c": 0, "d": 3}
TOSS = Body({"coin": 2, "fail": 0}, [("ask", "coin", (1, 2)), ("ask", "coin", (0, 3)), ("end", "good"), ("ask", "fail", ())])
NO_SHOWS = NOTHINGS + INTEGERS + ROWS + DICTS + [
    "coin", "end", ("end",), ("hang", "coin"), ("ask", "coin", ()), ("end", None), ("end", ["good"]), (["end"], "good"), ("go", "good"),
    {"end": "good"}, ("answer", 1), ("end", "coin"), ("ask", "good"), ("hang",), ["hang"],
]


def drawn(chance, many=6):
    return Body(COUNTS, random_rows(chance, COUNTS, many, ["x", "y"]), start=chance.randrange(many))


def layers(body, most):
    """For each length up to the most a dict from what is shown to the sorted histories."""
    found = [{} for _ in range(most + 1)]
    for history, shows in histories(body, lambda history: shown_by_rows(body, history), most):
        found[len(history)].setdefault(shows, []).append(history)
    return [{shows: sorted(told) for shows, told in layer.items()} for layer in found]


def has_ring(body):
    """Whether a row of rest that some run comes to leads back to itself."""
    rest, rows = rests(body), body.rows()
    for begin in met_rows(body):
        found = []
        waiting = [begin]
        while waiting:
            row = rows[waiting.pop()]
            for following in row[2] if row[0] == "ask" else ():
                if rest[following] not in found:
                    found.append(rest[following])
                    waiting.append(rest[following])
        if begin in found:
            return True
    return False


class Outcomes(Checks):
    def test_drawn(self):
        chance = random.Random(131)
        finite = 0
        for _ in range(250):
            body = drawn(chance)
            told = layers(body, 5)
            for many, layer in enumerate(told):
                self.assertEqual(counted(body, many), {shows: len(there) for shows, there in layer.items()})
                for shows, there in layer.items():
                    for index, history in enumerate(there):
                        self.assertEqual(numbered(body, many, shows, index), history)
                        self.assertEqual(numbered(body, many, list(shows), index), history)
                        self.assertEqual(index_of(body, history), index)
                    for index in (-1, len(there), len(there) + 1, 10 ** 29, -len(there)):
                        self.refused(NoIndex, lambda: numbered(body, many, shows, index), index)
            for shows in [("end", "x"), ("end", "y"), ("hang",)] + [("ask", name) for name in COUNTS]:
                first = [layer[shows][0] for layer in told if shows in layer][:1]
                way = first_to(body, shows)
                self.assertEqual(first_to(body, list(shows)), way)
                if first:
                    self.assertEqual(way, first[0])
                else:
                    self.assertIsNone(way)
                    self.refused(NoIndex, lambda: numbered(body, 3, shows, 0), 0)
            self.assertIs(is_finite(body), not has_ring(body))
            if is_finite(body):
                finite += 1
                self.all_told(body, layers(body, 6))
            else:
                self.refused(Endless, lambda: totals(body))
        self.assertGreater(finite, 50)

    def all_told(self, body, told):
        """What ends, told for all histories together: none of these bodies has more than 6 asks."""
        self.assertEqual(told[6], {})
        found = {}
        for layer in told:
            for shows, there in layer.items():
                if shows[0] != "ask" or body.operations()[shows[1]] == 0:
                    found[shows] = found.get(shows, 0) + len(there)
        self.assertEqual(totals(body), found)

    def test_what_is_told_of_the_example(self):
        self.assertEqual(counted(TOSS, 0), {("ask", "coin"): 1})
        self.assertEqual(counted(TOSS, 3), {("ask", "coin"): 1, ("end", "good"): 1})
        self.assertIs(is_finite(TOSS), False)
        told = counted(body=TOSS, many=2)
        told.clear()
        self.assertEqual(counted(TOSS, 2), {("ask", "coin"): 1, ("ask", "fail"): 1})
        once = Body({"coin": 2, "fail": 0}, [("ask", "coin", (1, 2)), ("ask", "coin", (3, 4)), ("end", "x"), ("ask", "fail", ()), ("go", 4)])
        self.assertEqual(totals(body=once), {("end", "x"): 1, ("ask", "fail"): 1, ("hang",): 1})
        self.assertEqual((totals(Body({}, [("go", 0)])), totals(Body({}, [("end", "x")]))), ({("hang",): 1}, {("end", "x"): 1}))
        self.assertIs(is_finite(body=once), True)

    def test_arguments_by_name(self):
        self.assertEqual(numbered(index=0, shows=("end", "good"), many=3, body=TOSS), (("coin", 0), ("coin", 0), ("coin", 1)))
        self.assertEqual(index_of(history=[["coin", 0]], body=TOSS), 0)
        self.assertEqual(first_to(shows=["ask", "fail"], body=TOSS), (("coin", 0), ("coin", 1)))

    def test_formulas(self):
        # At each ask 0 and 1 go on, 2 ends: 2 ** n histories with n elements ask, 2 ** (n - 1) end.
        body = Body({"d": 3}, [("ask", "d", (0, 0, 1)), ("end", "x")])
        self.assertEqual(counted(body, 1000), {("ask", "d"): 2 ** 1000, ("end", "x"): 2 ** 999})
        index = 3 * 2 ** 990 + 12345
        history = numbered(body, 1000, ("end", "x"), index)
        self.assertEqual([answer for _, answer in history], [int(figure) for figure in f"{index:0999b}"] + [2])
        self.assertEqual(index_of(body, history), index)
        for index in (0, 1, 2 ** 1000 - 1):
            history = numbered(body, 1000, ("ask", "d"), index)
            self.assertEqual(history, tuple(("d", int(figure)) for figure in f"{index:01000b}"))
            self.assertEqual(index_of(body, history), index)
        self.refused(NoIndex, lambda: numbered(body, 1000, ("ask", "d"), 2 ** 1000), 2 ** 1000)
        self.refused(NoIndex, lambda: numbered(body, 1000, ("end", "x"), 2 ** 999), 2 ** 999)
        self.refused(NoIndex, lambda: numbered(body, 1000, ("hang",), 10 ** 400), 10 ** 400)
        # All rows of 400 with 6 answers each, one end.
        chain = Body({"s": 6}, [("ask", "s", [at + 1] * 6) for at in range(399)] + [("end", "x")])
        self.assertEqual(totals(chain), {("end", "x"): 6 ** 399})
        self.assertEqual(counted(chain, 399), {("end", "x"): 6 ** 399})
        self.assertEqual((counted(chain, 400), counted(chain, 398)), ({}, {("ask", "s"): 6 ** 398}))
        index = 6 ** 399 * 2 // 7
        history = numbered(chain, 399, ("end", "x"), index)
        self.assertEqual(sum(answer * 6 ** place for place, (_, answer) in enumerate(reversed(history))), index)
        # Numbers of Fibonacci: behind 1 only 0 is asked.
        fib = Body({"a": 2, "b": 1}, [("ask", "a", (0, 1)), ("ask", "b", (0,))])
        numbers = [1, 2]
        while len(numbers) < 1001:
            numbers.append(numbers[-1] + numbers[-2])
        self.assertEqual(sum(counted(fib, 1000).values()), numbers[1000])

    def test_bad_counts(self):
        for many in NO_INTEGERS + INTEGERS + [-1, 1001]:
            for call in (lambda: counted(TOSS, many), lambda: numbered(TOSS, many, None, None), lambda: numbered(TOSS, many, ("end", "x"), 0)):
                error = self.refused(BadCount, call, many)
                self.assertIs(error.many, many)
        self.assertEqual((counted(TOSS, 1000), counted(TOSS, 0)), ({("ask", "coin"): 1, ("ask", "fail"): 1}, {("ask", "coin"): 1}))

    def test_no_index(self):
        for index in NO_INTEGERS + INTEGERS + [-1, 1, True, False]:
            error = self.refused(NoIndex, lambda: numbered(TOSS, 3, ("end", "good"), index), index)
            self.assertIs(error.index, index)
        for shows in NO_SHOWS:
            for index in (0, 1, -1, None):
                self.refused(NoIndex, lambda: numbered(TOSS, 2, shows, index), index)
            self.assertIsNone(first_to(TOSS, shows))
        # What is shown, but not behind so many elements.
        self.refused(NoIndex, lambda: numbered(TOSS, 2, ("end", "good"), 0), 0)

    def test_bad_history(self):
        for history in NO_ROWS:
            self.refused(BadHistory, lambda: index_of(TOSS, history), -1)
        for element in NOTHINGS + INTEGERS + ROWS + DICTS + [("coin", 2), ("coin", -1), ("coin", True), ("fail", 0), ("coin",), "coin"]:
            self.refused(BadHistory, lambda: index_of(TOSS, [("coin", 0), element]), 1)
        self.refused(BadHistory, lambda: index_of(TOSS, [("coin", 1), ("coin", 0)]), 1)

    def test_alike_bodies_tell_the_same(self):
        chance = random.Random(132)
        for _ in range(50):
            body = drawn(chance, 12)
            small = least(body)
            for many in (0, 3, 40):
                self.assertEqual(counted(body, many), counted(small, many))
                for shows, number in counted(body, many).items():
                    for index in {0, number // 2, number - 1}:
                        history = numbered(body, many, shows, index)
                        self.assertEqual((shown(body, history), index_of(body, history)), (shows, index))
                        self.assertEqual(numbered(small, many, shows, index), history)


class Large(Checks):
    def setUp(self):
        self.begun = time.monotonic()

    def tearDown(self):
        self.assertLess(time.monotonic() - self.begun, 20)

    def told_and_told_back(self, body, many):
        told = counted(body, many)
        for shows, number in told.items():
            for index in (number * 2 // 3,):
                history = numbered(body, many, shows, index)
                self.assertEqual((index_of(body, history), shown(body, history), len(history)), (index, shows, many))
            self.refused(NoIndex, lambda: numbered(body, many, shows, number), number)
        return told

    def test_drawn_bodies_of_400_rows(self):
        chance = random.Random(133)
        rows = [("ask", chance.choice("st"), [chance.randrange(400) for _ in range(6)]) for _ in range(398)] + [("end", "x"), ("go", 399)]
        body = Body({"s": 6, "t": 6}, rows)
        told = self.told_and_told_back(body, 1000)
        self.assertGreater(max(told.values()), 10 ** 700)
        self.assertLessEqual(set(told), {("ask", "s"), ("ask", "t"), ("end", "x"), ("hang",)})

    def test_rings(self):
        ring = Body({"s": 6}, [("ask", "s", [(at + 1) % 400] * 5 + [(at + 2) % 400]) for at in range(400)])
        self.assertEqual(self.told_and_told_back(ring, 1000), {("ask", "s"): 6 ** 1000})
        self.assertIs(is_finite(ring), False)

    def test_larger_than_a_body_may_be(self):
        links = []
        for word in ("x", "y", "z"):
            links.append(Body({"s": 6, "a": 2}, [("ask", "s", [at + 1] * 6) for at in range(299)] + [("end", word)]))
        body = links[0].then({"x": links[1].then({"y": links[2]})})
        self.assertEqual(len(body), 3 * 299 + 1)
        self.assertEqual(totals(body), {("end", "z"): 6 ** 897})
        self.assertEqual(self.told_and_told_back(body, 897), {("end", "z"): 6 ** 897})
        self.assertEqual((is_finite(body), len(first_to(body, ("end", "z")))), (True, 897))
        self.assertEqual(counted(body, 1000), {})
        ring = body.then({"z": body})
        self.assertEqual((len(ring), totals(ring)), (6 * 299 + 1, {("end", "z"): 6 ** 1794}))

    def test_histories_longer_than_are_counted(self):
        body = Body({"d": 3}, [("ask", "d", (0, 1, 1)), ("ask", "d", (1, 0, 0))])
        history = [("d", at % 3) for at in range(5000)]
        index = index_of(body, history)
        self.assertEqual(index, sum(at % 3 * 3 ** (4999 - at) for at in range(5000)))


if __name__ == "__main__":
    import unittest
    unittest.main()
