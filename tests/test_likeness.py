"""Section 8: bodies alike."""

import itertools
import random
import unittest

from askfurther.bodies import Body, shown
from askfurther.errors import Mismatch, Parted
from askfurther.fusing import handled
from askfurther.handlers import Handler
from askfurther.likeness import least, pairs, pairs_fault, parted, parting_handler, within
from askfurther.reach import unmet
from tests import alike
from tests.checks import Checks
from tests.models import random_rows
from tests.odd import DICTS, INTEGERS, NO_INTEGERS, NO_ROWS, NOTHINGS, ROWS

COUNTS = {"a": 2, "b": 1, "c": 0}
TOSS = Body({"coin": 2, "fail": 0}, [("ask", "coin", (1, 2)), ("ask", "coin", (0, 3)), ("end", "good"), ("ask", "fail", ())])
TWICE = Body({"coin": 2, "fail": 0}, [("ask", "coin", (1, 2)), ("ask", "coin", (4, 3)), ("end", "good"), ("ask", "fail", ()),
                                      ("ask", "coin", (5, 2)), ("go", 1)])


def drawn(chance, most, counts=None):
    counts = COUNTS if counts is None else counts
    many = chance.randrange(1, most + 1)
    return Body(counts, random_rows(chance, counts, many, ["x", "y"]), start=chance.randrange(many))


def stirred(chance, body):
    """A body that is alike: each row told twice, in another order, "go" rows here and there."""
    rows = body.rows()
    many = len(rows)
    places = list(range(3 * many))
    chance.shuffle(places)
    found = [None] * (3 * many)
    for copy in range(3):
        for at, row in enumerate(rows):
            def place(index):
                return places[chance.randrange(3) * many + index]

            if copy == 2:
                row = ("go", places[chance.randrange(2) * many + at])
            elif row[0] == "ask":
                row = ("ask", row[1], tuple(place(index) for index in row[2]))
            elif row[0] == "go":
                row = ("go", place(row[1]))
            found[places[copy * many + at]] = row
    return Body(body.operations(), found, start=places[chance.randrange(3) * many + body.start])


def all_bodies():
    """All bodies of one or two rows over two operations."""
    for many in (1, 2):
        kinds = [("end", "x"), ("end", "y")] + [("go", at) for at in range(many)] + [("ask", "b", (at,)) for at in range(many)]
        kinds += [("ask", "a", nexts) for nexts in itertools.product(range(many), repeat=2)]
        for rows in itertools.product(kinds, repeat=many):
            yield Body({"a": 2, "b": 1}, rows)


def changed(chance, body):
    """The body with another row in the place of one."""
    rows = body.rows()
    rows[chance.randrange(len(rows))] = random_rows(chance, body.operations(), len(rows), ["x", "y"])[0]
    return Body(body.operations(), rows, start=body.start)


class Parting(Checks):
    def holds(self, one, other):
        """Compares parted, pairs, least and parting_handler with the model."""
        told = parted(one, other)
        self.assertEqual(told is None, alike.are_alike(one, other))
        self.assertEqual(least(one) == least(other), told is None)
        if told is None:
            self.assertEqual(pairs(one, other), alike.all_pairs(one, other))
            self.assertIsNone(parting_handler(one, other))
            self.assertIsNone(pairs_fault(one, other, pairs(one, other)))
        else:
            self.assertEqual(told, alike.first_unlike(one, other, len(told[0]), False))
            self.refused(Parted, lambda: pairs(one, other), told[0])
            self.parts(parting_handler(one, other), one, other, told)
        return told

    def parts(self, handler, one, other, told):
        """The handler ends the bodies at once, but for the one that hangs behind the history that parts them."""
        self.assertIs(type(handler), Handler)
        self.assertEqual(handler.further(), {})
        for body, shows, word in ((one, told[1], "one"), (other, told[2], "other")):
            whole = shown(handled(handler, body), [])
            self.assertEqual(whole, ("hang",) if shows == ("hang",) else ("end", word))

    def test_drawn(self):
        chance = random.Random(81)
        lengths = set()
        for _ in range(400):
            one, other = drawn(chance, 7), drawn(chance, 7)
            self.holds(one, other)
            other = stirred(chance, one)
            self.assertIsNone(self.holds(one, other))
            for _ in range(2):
                other = changed(chance, other)
                told = self.holds(one, other)
                self.assertEqual(self.holds(other, one), told and (told[0], told[2], told[1]))
                lengths.add(len(told[0]) if told else -1)
        self.assertLessEqual({-1, 0, 1, 2, 3}, lengths)

    def test_all_small_bodies(self):
        bodies = list(all_bodies())
        self.assertGreater(len(bodies), 100)
        chance = random.Random(82)
        leasts = [least(body).rows() for body in bodies]
        for one, other in itertools.combinations(range(len(bodies)), 2):
            if chance.random() < 0.1:
                self.assertEqual(leasts[one] == leasts[other], self.holds(bodies[one], bodies[other]) is None)

    def test_fewest_elements_ahead_of_the_first_ones(self):
        one = Body({"a": 2, "b": 2}, [("ask", "a", (1, 2)), ("ask", "a", (3, 3)), ("ask", "b", (3, 4)), ("end", "x"), ("end", "y")])
        other = Body({"a": 2, "b": 2}, [("ask", "a", (1, 2)), ("ask", "a", (4, 3)), ("ask", "b", (3, 3)), ("end", "x"), ("end", "z")])
        self.assertEqual(self.holds(one, other), ((("a", 0), ("a", 0)), ("end", "x"), ("end", "z")))
        later = Body({"a": 2, "b": 2}, [("ask", "a", (1, 2)), ("ask", "a", (3, 3)), ("ask", "b", (3, 3)), ("end", "x")])
        self.assertEqual(self.holds(one, later), ((("a", 1), ("b", 1)), ("end", "y"), ("end", "x")))
        early = Body({"a": 2, "b": 2}, [("ask", "a", (1, 2)), ("ask", "a", (1, 1)), ("end", "y")])
        self.assertEqual(self.holds(one, early), ((("a", 1),), ("ask", "b"), ("end", "y")))

    def test_shows_of_all_sorts(self):
        rows = {"x": ("end", "x"), "y": ("end", "y"), "a": ("ask", "a", (0, 0)), "c": ("ask", "c", ()), "go": ("go", 0)}
        for one, other in itertools.product(rows, repeat=2):
            bodies = [Body(COUNTS, [rows[name]]) for name in (one, other)]
            told = self.holds(*bodies)
            self.assertEqual(told, None if one == other else ((), *[shown(body, []) for body in bodies]))
            bodies = [Body(COUNTS, [("ask", "a", (1, 2)), ("end", "x"), ("go", 3), rows[name] if name != "go" else ("go", 3)])
                      for name in (one, other)]
            self.assertEqual(self.holds(*bodies) is None, one == other)

    def test_operations_that_one_has_alone(self):
        one, other = Body({"a": 2, "b": 1}, [("ask", "a", (0, 0))]), Body({"a": 2, "c": 3}, [("ask", "a", (1, 0)), ("go", 0)])
        self.assertIsNone(self.holds(one, other))
        self.assertEqual(least(one).operations(), {"a": 2})
        ask = Body({"c": 3}, [("ask", "c", (0, 0, 0))])
        self.assertEqual(self.holds(one, ask), ((), ("ask", "a"), ("ask", "c")))

    def test_equal_words_and_operations(self):
        ask, end = Body({"x": 0}, [("ask", "x", ())]), Body({}, [("end", "x")])
        self.assertEqual(self.holds(ask, end), ((), ("ask", "x"), ("end", "x")))

    def test_parting_handler_handles_just_what_it_must(self):
        one = Body({"a": 2, "b": 1}, [("ask", "a", (1, 1)), ("ask", "a", (1, 2)), ("end", "x"), ("ask", "b", (0,))])
        other = Body({"a": 2, "d": 1}, [("ask", "a", (1, 1)), ("ask", "a", (1, 2)), ("ask", "d", (0,))])
        handler = parting_handler(one, other)
        self.assertEqual((handler.handled(), handler.further(), unmet(handler)), ({"a": 2, "d": 1}, {}, []))
        self.assertEqual(handler.start, "a")
        again = parting_handler(one=Body({}, [("end", "x")]), other=Body({}, [("end", "y")]))
        self.assertEqual((again.handled(), again.ends()), ({}, {("a", "x"): (("finish", "one"),), ("a", "y"): (("finish", "other"),)}))

    def test_mismatch_ahead_of_all_else(self):
        one = Body({"b": 1, "a": 2, "c": 3}, [("end", "x")])
        cases = [({"c": 2}, "c"), ({"c": 2, "b": 0}, "b"), ({"c": 2, "a": 0, "b": 1}, "a")]
        for counts, operation in cases:
            for rows in ([("end", "x")], [("end", "y")], [("go", 0)]):
                other = Body(counts, rows)
                for call in (parted, pairs, within, parting_handler):
                    self.refused(Mismatch, lambda: call(one, other), operation)
                    self.refused(Mismatch, lambda: call(other, one), operation)
                for row in (None, [], [(0, 0)], [(5, 5)], "pairs"):
                    self.refused(Mismatch, lambda: pairs_fault(one, other, row), operation)

    def test_arguments_by_name(self):
        self.assertIsNone(parted(one=TOSS, other=TWICE))
        self.assertIsNone(within(one=TOSS, other=TWICE))
        self.assertEqual(pairs(one=TOSS, other=TWICE), pairs(TOSS, TWICE))
        self.assertIsNone(pairs_fault(one=TOSS, other=TWICE, pairs=pairs(TOSS, TWICE)))
        self.assertEqual(least(body=TWICE), TOSS)


class Least(unittest.TestCase):
    def test_drawn(self):
        chance = random.Random(83)
        for _ in range(500):
            body = drawn(chance, 10)
            small = least(body)
            self.assertIs(type(small), Body)
            found = alike.classes([body])
            self.assertEqual(len(small), len({found[0, at] for at in alike.met_rows(body)}))
            self.assertTrue(alike.are_alike(small, body))
            self.assertEqual((small.start, alike.met_rows(small)), (0, list(range(len(small)))))
            for at, row in enumerate(small.rows()):
                self.assertTrue(row[0] != "go" or row == ("go", at))
            self.assertEqual(small.operations(), {name: COUNTS[name] for name in body.asked()})
            self.assertEqual(least(small), small)
            self.assertEqual(least(stirred(chance, body)), small)
            self.assertEqual(Body(small.operations(), small.rows()), small)

    def test_drawn_bodies_that_are_parted_in_many_rounds(self):
        chance = random.Random(96)
        for _ in range(300):
            many = chance.randrange(10, 60)
            near = chance.choice([3, 10, many])
            rows = [("ask", "a", ((at + 1) % many, (at + chance.randrange(near)) % many)) for at in range(many)]
            for at in range(chance.randrange(1, 4)):
                rows[chance.randrange(many)] = chance.choice([("end", "x"), ("ask", "b", (chance.randrange(many),)), ("go", 0)])
            body = Body(COUNTS, rows)
            found = alike.classes([body])
            self.assertEqual(len(least(body)), len({found[0, at] for at in alike.met_rows(body)}))
            self.assertIsNone(parted(least(body), body))

    def test_rows_in_the_order_in_which_they_are_met(self):
        body = Body({"a": 3, "b": 2}, [("go", 5), ("end", "z"), ("end", "y"), ("go", 4), ("go", 3), ("ask", "a", (2, 6, 3)),
                                       ("ask", "b", (1, 0)), ("end", "no")])
        self.assertEqual(least(body).rows(), [("ask", "a", (1, 2, 3)), ("end", "y"), ("ask", "b", (4, 0)), ("go", 3), ("end", "z")])

    def test_rows_alike_are_one(self):
        rows = [("ask", "a", (at + 1, at + 2)) for at in range(20)] + [("ask", "a", (20, 21)), ("ask", "a", (0, 7))]
        self.assertEqual(least(Body({"a": 2}, rows)).rows(), [("ask", "a", (0, 0))])
        rows[9] = ("ask", "b", (0,))
        body = Body({"a": 2, "b": 1, "c": 5}, rows)
        found = alike.classes([body])
        self.assertEqual(len(least(body)), len({found[0, at] for at in alike.met_rows(body)}))
        self.assertEqual(least(body).operations(), {"a": 2, "b": 1})


class Pairs(Checks):
    def test_fault_of_drawn_rows(self):
        chance = random.Random(84)
        faults = set()
        for _ in range(400):
            one = drawn(chance, 6)
            other = stirred(chance, one)
            told = pairs(one, other)
            for row in (told, told[::-1], told + told, tuple(told), [list(pair) for pair in told]):
                self.assertIsNone(pairs_fault(one, other, row))
            for _ in range(4):
                row = [chance.choice([tuple, list])(pair) for pair in told]
                chance.shuffle(row)
                wrong = (chance.randrange(len(one)), chance.randrange(len(other)))
                for change in chance.sample(["less", "more", "other"], chance.randrange(1, 3)):
                    if change == "less" and row:
                        del row[chance.randrange(len(row))]
                    elif change == "more":
                        row.insert(chance.randrange(len(row) + 1), wrong)
                    elif row:
                        row[chance.randrange(len(row))] = wrong
                fault = alike.fault_of(one, other, row)
                self.assertEqual(pairs_fault(one, other, row), fault)
                faults.add(fault[0] if fault else None)
        self.assertEqual(faults, {None, "pairs", "begin", "shows", "step"})

    def test_no_closed_row_for_unlike_bodies(self):
        chance = random.Random(85)
        for _ in range(200):
            one, other = drawn(chance, 4), drawn(chance, 4)
            if parted(one, other) is None:
                continue
            every = [(i, j) for i in sorted(set(alike.rests(one))) for j in sorted(set(alike.rests(other)))]
            for row in (every, alike.all_pairs(one, other), [(i, j) for i, j in every if alike.shows_at(one, i) == alike.shows_at(other, j)]):
                fault = pairs_fault(one, other, row)
                self.assertEqual(fault, alike.fault_of(one, other, row))
                self.assertIsNotNone(fault)

    def test_what_is_left_out_doubled_or_put_elsewhere(self):
        told = pairs(TOSS, TWICE)
        self.assertEqual(told, [(0, 0), (0, 4), (1, 1), (2, 2), (3, 3)])
        self.assertEqual(pairs_fault(TOSS, TWICE, []), ("begin",))
        self.assertEqual(pairs_fault(TOSS, TWICE, told[1:]), ("begin",))
        self.assertEqual(pairs_fault(TOSS, TWICE, told[:1] + told[2:]), ("step", 1, (0, 4)))
        self.assertEqual(pairs_fault(TOSS, TWICE, [(0, 0)]), ("step", 0, (1, 1)))
        self.assertEqual(pairs_fault(TOSS, TWICE, [(1, 1), (0, 0), (0, 4)]), ("step", 0, (3, 3)))
        self.assertEqual(pairs_fault(TOSS, TWICE, told[::-1] + [(1, 0)]), ("step", 5, (0, 1)))
        self.assertEqual(pairs_fault(TOSS, TWICE, told + [(1, 2)]), ("shows", 5))
        self.assertEqual(pairs_fault(TOSS, TWICE, told + [(1, 5)]), ("pairs", 5))
        self.assertEqual(pairs_fault(TOSS, TWICE, [(2, 3), (1, 5)]), ("pairs", 1))
        self.assertEqual(pairs_fault(TOSS, TWICE, [(2, 3)]), ("begin",))
        self.assertIsNone(pairs_fault(TOSS, TWICE, [[0, 0], *told, (3, 3)]))

    def test_rows_by_which_a_hang_is_told(self):
        one = Body({"a": 1}, [("ask", "a", (3,)), ("go", 2), ("go", 1), ("go", 2)])
        other = Body({"a": 1}, [("go", 3), ("go", 4), ("go", 1), ("ask", "a", (5,)), ("go", 2), ("go", 4)])
        self.assertEqual(pairs(one, other), [(0, 3), (1, 1)])
        self.assertIsNone(pairs_fault(one, other, [(0, 3), (1, 1)]))
        for pair in ((2, 1), (3, 1), (1, 2), (1, 4), (1, 5), (1, 0)):
            self.assertEqual(pairs_fault(one, other, [(0, 3), (1, 1), pair]), ("pairs", 2))
        self.assertEqual(pairs_fault(one, other, [(0, 3), (0, 1)]), ("step", 0, (1, 1)))
        self.assertEqual(pairs_fault(one, other, [(1, 1), (0, 3), (0, 1)]), ("shows", 2))

    def test_no_row_and_wrong_elements(self):
        for row in NO_ROWS:
            self.assertEqual(pairs_fault(TOSS, TWICE, row), ("pairs", -1))
        told = pairs(TOSS, TWICE)
        wrong = NOTHINGS + INTEGERS + ROWS + DICTS + ["ab", 0, (0,), (0, 0, 0), [], [(0, 0)], {0: 0}, range(2)]
        wrong += [(index, 0) for index in NO_INTEGERS + INTEGERS + [4, -1, -4]]
        wrong += [[0, index] for index in NO_INTEGERS + INTEGERS + [6, -1, -6, 5]]
        for pair in wrong:
            self.assertEqual(pairs_fault(TOSS, TWICE, [pair]), ("pairs", 0))
            self.assertEqual(pairs_fault(TOSS, TWICE, (*told, pair, pair)), ("pairs", 5))
        self.assertEqual(pairs_fault(TOSS, TWICE, [(2, 3), *told, (0, 5), None]), ("pairs", 6))

    def test_no_call_changes_its_arguments(self):
        row = [[0, 0], [0, 4], (1, 1), [2, 2], [3, 3]]
        self.assertIsNone(pairs_fault(TOSS, TWICE, row))
        self.assertEqual(row, [[0, 0], [0, 4], (1, 1), [2, 2], [3, 3]])
        pairs(TOSS, TWICE).clear()
        self.assertEqual(len(pairs(TOSS, TWICE)), 5)


class Within(Checks):
    def holds(self, one, other):
        told = within(one, other)
        self.assertEqual(told, alike.first_unlike(one, other, 9 if told is None else len(told[0]), True))
        if told is None:
            # Walking all pairs shows that nothing comes later.
            for i, j in alike.all_pairs(one, other):
                self.assertIn(alike.shows_at(one, i), (("hang",), alike.shows_at(other, j)))
        return told

    def test_drawn(self):
        chance = random.Random(86)
        found = set()
        for _ in range(300):
            one, other = drawn(chance, 6), drawn(chance, 6)
            self.holds(one, other)
            rows = one.rows()
            for _ in range(2):
                at = chance.randrange(len(rows))
                rows[at] = ("go", at)
                less = stirred(chance, Body(COUNTS, rows, start=one.start))
                self.assertIsNone(self.holds(less, one))
                found.add(self.holds(one, less) is None)
            other = changed(chance, less)
            found.add((self.holds(other, one) is None, self.holds(one, other) is None))
        self.assertEqual(found, {True, False, (True, True), (True, False), (False, True), (False, False)})

    def test_within_both_ways_is_alike(self):
        chance = random.Random(87)
        for _ in range(300):
            one = drawn(chance, 5)
            other = changed(chance, stirred(chance, one))
            both = within(one, other) is None and within(other, one) is None
            self.assertEqual(both, parted(one, other) is None)

    def test_a_body_that_hangs_is_within_all(self):
        hang = Body({"z": 1}, [("go", 1), ("go", 0)])
        for body in (TOSS, TWICE, hang, Body({}, [("end", "x")])):
            self.assertIsNone(within(hang, body))
        self.assertEqual(within(TOSS, hang), ((), ("ask", "coin"), ("hang",)))

    def test_the_least_history_need_not_part_them_first(self):
        one = Body({"a": 2}, [("ask", "a", (1, 2)), ("go", 1), ("end", "x")])
        other = Body({"a": 2}, [("ask", "a", (1, 1)), ("end", "y")])
        self.assertEqual(parted(one, other), ((("a", 0),), ("hang",), ("end", "y")))
        self.assertEqual(within(one, other), ((("a", 1),), ("end", "x"), ("end", "y")))


if __name__ == "__main__":
    unittest.main()
