"""Section 4: a body that goes on with others behind its words."""

import itertools
import random
import unittest

from askfurther.bodies import Body, shown
from askfurther.errors import BadBody, BadHistory, BadOperations, BadOthers, Mismatch
from tests.checks import Checks
from tests.models import histories, random_rows, shown_by_rows
from tests.odd import DICTS, INTEGERS, NO_NAMES, NOTHINGS, ROWS, SMALL

CHAIN = Body({"a": 1}, [("ask", "a", [at + 1]) for at in range(399)] + [("end", "on")])


def shown_then(body, others, history):
    """What comes behind a history where the body is gone on with."""
    for many in range(len(history) + 1):
        shows = shown_by_rows(body, history[:many])
        if shows[0] == "end" and shows[1] in others:
            return shown_by_rows(others[shows[1]], history[many:])
    return shows


class Then(Checks):
    def same(self, body, others, most):
        both = body.then(others)
        self.assertIs(type(both), Body)
        counts = dict(body.operations())
        for other in others.values():
            counts.update(other.operations())
        self.assertEqual(both.operations(), counts)
        shows = set()
        for history, told in histories(both, lambda history: shown_then(body, others, history), most):
            self.assertEqual(shown(both, history), told)
            self.assertEqual(shown_by_rows(both, history), told)
            shows.add(told)
        return both, shows

    def test_words_with_and_without_a_body(self):
        body = Body({"a": 3}, [("ask", "a", (1, 2, 3)), ("end", "x"), ("end", "y"), ("go", 3)])
        other = Body({"b": 2, "c": 0}, [("end", "x"), ("ask", "b", (0, 2)), ("ask", "c", ())], start=1)
        both, _ = self.same(body, {"x": other}, 4)
        self.assertEqual((both.asked(), both.words(), both.hangs()), (["a", "b", "c"], ["x", "y"], True))
        both, _ = self.same(body, {"x": other, "y": Body({}, [("end", "z")])}, 4)
        self.assertEqual(both.words(), ["x", "z"])
        both, _ = self.same(body, {"x": Body({}, [("go", 0)]), "y": other}, 4)
        self.assertEqual(both.words(), ["x"])

    def test_no_others(self):
        both, _ = self.same(SMALL, {}, 4)
        self.assertEqual(both.words(), ["good"])
        both, _ = self.same(SMALL, {"bad": Body({"b": 1}, [("ask", "b", (0,))])}, 4)
        self.assertEqual((both.operations(), both.asked()), ({"b": 1, "coin": 2}, ["coin"]))

    def test_once(self):
        both, _ = self.same(SMALL, {"good": SMALL}, 5)
        self.assertEqual(shown(both, [("coin", 1)]), ("ask", "coin"))
        self.assertEqual(shown(both, [("coin", 1), ("coin", 1)]), ("end", "good"))
        both, _ = self.same(SMALL, {"good": Body({}, [("end", "good")])}, 3)
        self.assertEqual(shown(both, [("coin", 1)]), ("end", "good"))
        one, two = Body({}, [("end", "x")]), Body({}, [("end", "y")])
        self.assertEqual(shown(one.then({"x": two, "y": one}), []), ("end", "y"))

    def test_one_body_behind_several_words(self):
        body = Body({"a": 3}, [("ask", "a", (1, 2, 3)), ("end", "x"), ("end", "y"), ("end", "z")])
        self.same(body, {"x": SMALL, "y": SMALL, "z": SMALL}, 4)
        again = Body({"coin": 2}, SMALL.rows(), start=1)
        self.same(body, {"x": SMALL, "y": again, "z": body}, 4)
        late = Body({"b": 2}, [("end", "on"), ("go", 2), ("ask", "b", (0, 1))], start=2)
        self.same(body, {"x": late, "y": late, "z": SMALL}, 4)
        self.same(body, {"x": SMALL, "y": late, "z": late}, 4)
        many = body
        for _ in range(9):
            many = many.then({"x": body, "y": body, "z": body})
        self.assertLess(len(many), 20000)
        self.assertEqual(shown(many, [("a", 0)] * 10), ("end", "x"))

    def test_words_and_operations_may_share_names(self):
        body = Body({"x": 2}, [("ask", "x", (1, 2)), ("end", "x"), ("ask", "x", (0, 1))])
        both, _ = self.same(body, {"x": Body({"good": 1}, [("ask", "good", [1]), ("end", "x")])}, 5)
        self.assertEqual((both.asked(), both.words()), (["good", "x"], ["x"]))

    def test_order_of_keys_means_nothing(self):
        body = Body({"z": 3, "a": 1}, [("ask", "z", (1, 2, 3)), ("end", "x"), ("end", "y"), ("end", "z")])
        others = {"x": SMALL, "y": Body({"m": 1, "b": 1}, [("go", 0)]), "z": body}
        both = body.then(others)
        again = body.then({word: others[word] for word in reversed(list(others))})
        self.assertEqual((both, list(both.operations())), (again, ["a", "b", "coin", "m", "z"]))
        self.assertEqual(list(again.operations()), list(both.operations()))

    def test_many_bodies(self):
        chance = random.Random(6)
        operations = {"a": 2, "b": 1, "c": 0}
        for _ in range(300):
            bodies = [
                Body(operations, random_rows(chance, operations, many, ["x", "y", "z"]), start=chance.randrange(many))
                for many in [chance.randrange(1, 7) for _ in range(3)]
            ]
            others = {word: chance.choice(bodies) for word in chance.sample(["w", "x", "y", "z"], chance.randrange(4))}
            both, shows = self.same(bodies[0], others, 7)
            self.assertEqual(both.asked(), sorted(told[1] for told in shows if told[0] == "ask"))
            self.assertEqual(both.words(), sorted(told[1] for told in shows if told[0] == "end"))
            self.assertIs(both.hangs(), ("hang",) in shows)

    def test_bad_others(self):
        wrong = NOTHINGS + INTEGERS + ROWS + DICTS + ["good", 0]
        wrong += [{"good": thing} for thing in NO_NAMES if not isinstance(thing, Body)]
        wrong += [{"good": SMALL, "bad": thing} for thing in (None, Body, SMALL.rows(), {"good": SMALL})]
        wrong += [{word: SMALL} for word in ("", "Good", "abcdefghi", "a b", 1, None, True, b"good", ("good",))]
        wrong += [{"abcdefghi"[at]: SMALL for at in range(9)}]
        for others in wrong:
            self.refused(BadOthers, lambda: SMALL.then(others))
        eight = {"abcdefgh"[at:]: SMALL for at in range(8)}
        self.assertEqual(shown(SMALL.then(eight), [("coin", 1)]), ("end", "good"))

    def test_mismatch(self):
        def body(operations):
            return Body(operations, [("end", "x")])

        base = body({"a": 1, "b": 2, "c": 3})
        self.refused(Mismatch, lambda: base.then({"x": body({"b": 1})}), "b")
        self.refused(Mismatch, lambda: base.then({"x": body({"c": 1, "b": 2, "a": 1})}), "c")
        self.refused(Mismatch, lambda: base.then({"x": body({"c": 1}), "y": body({"a": 0})}), "a")
        self.refused(Mismatch, lambda: base.then({"x": body({"d": 1}), "y": body({"d": 0})}), "d")
        self.refused(Mismatch, lambda: base.then({"x": body({"d": 1}), "y": body({"d": 0}), "z": body({"c": 0})}), "c")
        self.refused(Mismatch, lambda: base.then({"unmet": body({"b": 0})}), "b")
        self.refused(BadOthers, lambda: base.then({"x": body({"b": 1}), "y": None}))
        for words in itertools.permutations(["x", "y", "z"]):
            tables = [{"e": 1, "g": 2}, {"f": 3, "e": 0}, {"f": 2, "g": 0}]
            others = {word: body(tables["xyz".index(word)]) for word in words}
            self.refused(Mismatch, lambda: base.then(others), "e")

    def test_more_rows_than_a_body_may_be_made_of(self):
        long = CHAIN.then({"on": CHAIN})
        longer = long.then({"on": long}).then({"on": SMALL, "off": CHAIN})
        self.assertGreater(len(long), 400)
        history = [("a", 0)] * (4 * 399)
        self.assertEqual(shown(long, history[:798]), ("end", "on"))
        self.assertEqual(shown(longer, history), ("ask", "coin"))
        self.assertEqual(shown(longer, history + [("coin", 0), ("coin", 1)]), ("end", "good"))
        self.refused(BadHistory, lambda: shown(longer, history + [("a", 0)]), 4 * 399)
        self.assertEqual((longer.asked(), longer.words(), longer.hangs()), (["a", "coin"], ["good"], False))
        self.assertEqual([longer[at] for at in range(len(longer))], longer.rows())
        self.assertTrue(long == CHAIN.then({"on": CHAIN}))
        self.assertFalse(long == longer)
        self.refused(BadBody, lambda: Body(long.operations(), long.rows()), -1)
        small = SMALL.then({"good": SMALL})
        self.assertEqual(Body(small.operations(), small.rows(), start=small.start), small)

    def test_more_operations_than_a_body_may_be_made_of(self):
        one = Body({"a" + letter: 1 for letter in "abcdefgh"}, [("end", "x")])
        two = Body({"b" + letter: 1 for letter in "abcdefgh"}, [("ask", "ba", (1,)), ("end", "x")])
        both = one.then({"x": two})
        self.assertEqual(both.operations(), {**one.operations(), **two.operations()})
        self.assertEqual(shown(both.then({"x": both}), [("ba", 0)] * 2), ("end", "x"))
        self.refused(BadOperations, lambda: Body(both.operations(), [("go", 0)]))
        self.refused(Mismatch, lambda: both.then({"no": Body({"bh": 2, "bg": 2}, [("go", 0)])}), "bg")

    def test_the_passed_dict_may_be_changed(self):
        others = {"good": SMALL}
        both = SMALL.then(others)
        others.clear()
        self.assertEqual(shown(both, [("coin", 1)]), ("ask", "coin"))

    def test_rings_and_long_chains(self):
        ring = Body({}, [("go", at + 1) for at in range(399)] + [("go", 17)])
        chain = Body({}, [("go", at + 1) for at in range(399)] + [("end", "on")])
        self.assertEqual(shown(chain.then({"on": chain}).then({"on": chain}), []), ("end", "on"))
        self.assertEqual(shown(chain.then({"on": ring}), []), ("hang",))
        self.assertTrue(chain.then({"on": ring}).then({"on": SMALL}).hangs())


if __name__ == "__main__":
    unittest.main()
