"""Sections 4 and 5 held against section 8, and bodies as large as may be."""

import random
import time
import unittest

from askfurther.bodies import Body, shown
from askfurther.errors import Parted, TooMany
from askfurther.fusing import fused, handled
from askfurther.handlers import Handler
from askfurther.likeness import least, pairs, pairs_fault, parted, parting_handler, within
from askfurther.reach import unmet
from askfurther.written import written
from tests.checks import Checks
from tests.models import random_block, random_rows
from tests.within import random_parts

COUNTS = {"a": 2, "b": 1, "c": 0}
WORDS = ["x", "y", "z"]


def drawn(chance, many=5):
    return Body(COUNTS, random_rows(chance, COUNTS, many, WORDS), start=chance.randrange(many))


def told_otherwise(chance, block, sizes):
    """A block that does the same, with a variable "spare" that is never asked for."""
    found = []
    for statement in block:
        word = statement[0]
        if chance.random() < 0.2:
            found.append(chance.choice([("turn", "spare"), ("when", "spare", 1, [], [("turn", "spare")]), ("copy", "spare", "spare")]))
        if word == "when":
            yes, no = (told_otherwise(chance, inner, sizes) for inner in statement[3:])
            if sizes[statement[1]] == 2 and chance.random() < 0.5:
                found.append(("when", statement[1], 1 - statement[2], no, yes))
            else:
                found.append(("when", statement[1], statement[2], yes, no))
        elif word == "same":
            found.append(("same", statement[2], statement[1], *[told_otherwise(chance, inner, sizes) for inner in statement[3:]]))
        elif word == "loop":
            found.append(("loop", told_otherwise(chance, statement[1], sizes) + [("again",)] * chance.randrange(2)))
        elif word == "turn" and chance.random() < 0.5:
            found += [statement] * (sizes[statement[1]] + 1)
        elif word == "set" and chance.random() < 0.5:
            found += [("set", statement[1], 0), ("turn", statement[1]), statement]
        elif word == "ask" and statement[1] is None:
            found.append(("ask", "spare", statement[2]))
        else:
            found.append(statement)
            if word in ("leave", "again", "end"):
                found += [("ask", None, "a"), ("end", "never")] * chance.randrange(2)
    return found


class Then(unittest.TestCase):
    def test_three_bodies_put_together_either_way(self):
        chance = random.Random(88)
        for _ in range(300):
            one, two, three = drawn(chance), drawn(chance), drawn(chance)
            left = one.then({"x": two}).then({"y": three})
            # Behind y of the first body, too, the third one comes.
            right = one.then({"x": two.then({"y": three}), "y": three})
            self.assertIsNone(parted(left, right))
            self.assertEqual(least(left), least(right))
            self.assertIsNone(pairs_fault(left, right, pairs(left, right)))
            both = {"x": two, "y": three, "w": one}
            self.assertIsNone(parted(one.then(both), least(one).then({word: least(body) for word, body in both.items()})))

    def test_many_bodies_one_behind_another(self):
        chance = random.Random(89)
        for _ in range(20):
            bodies = [drawn(chance) for _ in range(8)]
            left, right = bodies[0], bodies[-1]
            for body in bodies[1:]:
                left = left.then({word: body for word in WORDS})
            for body in bodies[-2::-1]:
                right = body.then({word: right for word in WORDS})
            self.assertIsNone(parted(left, right))
            self.assertEqual(least(left), least(right))

    def test_nothing_behind_is_alike(self):
        chance = random.Random(90)
        for _ in range(100):
            body = drawn(chance)
            self.assertIsNone(parted(body.then({}), body))
            self.assertIsNone(parted(body.then({word: Body({}, [("end", word)]) for word in WORDS}), body))
            self.assertIsNone(within(body.then({"x": Body({}, [("go", 0)])}), body))


class Written(unittest.TestCase):
    def test_blocks_told_otherwise(self):
        chance = random.Random(93)
        many = 0
        for _ in range(400):
            sizes = {"x": 2, "y": 3, "z": 2}
            block, _ = random_block(chance, COUNTS, sizes, 14, False, 2)
            other = told_otherwise(chance, block, sizes)
            try:
                one, two = written(COUNTS, sizes, block), written(COUNTS, {**sizes, "spare": 3}, other)
            except TooMany:
                continue
            many += 1
            self.assertIsNone(parted(one, two))
            self.assertEqual(least(one), least(two))
            self.assertIsNone(pairs_fault(one, two, pairs(one, two)))
            self.assertIsNone(parted(one, written(COUNTS, dict(reversed(list(sizes.items()))), tuple(block))))
        self.assertGreater(many, 300)

    def test_blocks_one_behind_another(self):
        chance = random.Random(94)
        many = 0
        for _ in range(100):
            sizes = {"x": 2, "y": 2}
            one, two = (random_block(chance, COUNTS, sizes, 8, False, 3)[0] for _ in range(2))
            both = list(one) + [("set", "x", 0), ("set", "y", 0)] + list(two)
            if "'done'" in repr(one):
                continue
            many += 1
            behind = written(COUNTS, sizes, one).then({"done": written(COUNTS, sizes, two)})
            self.assertIsNone(parted(written(COUNTS, sizes, both), behind))
        self.assertGreater(many, 50)


class Large(Checks):
    def setUp(self):
        self.begun = time.monotonic()

    def tearDown(self):
        self.assertLess(time.monotonic() - self.begun, 20)

    def ring(self, many, marks=()):
        return Body({"a": 1, "b": 1}, [("ask", "b" if at in marks else "a", [(at + 1) % many]) for at in range(many)])

    def test_rings_of_asks(self):
        one, other = self.ring(397), self.ring(400)
        self.assertIsNone(parted(one, other))
        self.assertIsNone(within(one, other))
        told = pairs(one, other)
        self.assertEqual(told, [(i, j) for i in range(397) for j in range(400)])
        self.assertIsNone(pairs_fault(one, other, told))
        self.assertEqual(pairs_fault(one, other, told[:-1]), ("step", 397 * 400 - 402, (396, 399)))
        self.assertEqual(least(other).rows(), [("ask", "a", (0,))])

    def test_bodies_that_are_parted_late(self):
        one, other = self.ring(399, (398,)), self.ring(400, (398,))
        told = parted(one, other)
        self.assertEqual((len(told[0]), told[1:]), (398 + 1 + 398, (("ask", "b"), ("ask", "a"))))
        self.assertEqual((len(least(one)), len(least(other))), (399, 400))
        handler = parting_handler(one, other)
        self.assertEqual(len(handler.states()), 798)
        self.assertEqual(shown(handled(handler, one), []), ("end", "one"))
        self.assertEqual(shown(handled(handler, other), []), ("end", "other"))
        self.refused(Parted, lambda: pairs(one, other), told[0])
        # Put further, as what is returned may be: around nothing that is asked, it does the same.
        again = fused(handler, Handler({"z": 1}, {}, "s", {("s", "z"): [("go", 0)]}, {}))
        self.assertEqual(shown(handled(again, other), []), ("end", "other"))

    def test_chains_and_rings_of_go_rows(self):
        chain = Body({"a": 2}, [("go", at + 1) for at in range(398)] + [("ask", "a", (0, 399)), ("end", "x")])
        short = Body({"a": 2}, [("ask", "a", (0, 1)), ("end", "x")])
        self.assertEqual((parted(chain, short), least(chain), pairs(chain, short)), (None, short, [(398, 0), (399, 1)]))
        ring = Body({"a": 2}, [("go", at + 1) for at in range(399)] + [("go", 77)])
        self.assertEqual((least(ring).rows(), pairs(ring, ring), within(ring, chain)), ([("go", 0)], [(77, 77)], None))
        self.assertEqual(parted(ring, chain), ((), ("hang",), ("ask", "a")))
        back = Body({"a": 2}, [("end", "x")] + [("go", at) for at in range(398)] + [("ask", "a", (398, 399))], start=399)
        self.assertEqual(least(back), Body({"a": 2}, [("ask", "a", (1, 0)), ("end", "x")]))

    def test_drawn_bodies_of_400_rows(self):
        chance = random.Random(95)
        counts = {"a": 6, "b": 5}
        one = Body(counts, random_rows(chance, counts, 400, WORDS))
        other = Body(counts, random_rows(chance, counts, 400, WORDS))
        self.assertIsNotNone(parted(one, other))
        self.assertIsNone(parted(one, least(one)))
        handler = Handler(*random_parts(chance, {"a": 6}, {"b": 5}, WORDS, ["p", "q", "r"], 2))
        self.assertIsNone(parted(handled(handler, one), handled(handler, least(one))))

    def test_chains_larger_than_a_body_may_be(self):
        chain = Body({"a": 1}, [("ask", "a", [at + 1]) for at in range(399)] + [("end", "x")])
        one, other = chain, chain
        for _ in range(9):
            one = one.then({"x": chain})
        for _ in range(8):
            other = other.then({"x": chain})
        self.assertEqual((len(least(one)), len(one.rows())), (3991, 3991))
        self.assertEqual(parted(one, other.then({"x": chain})), None)
        self.assertEqual(parted(one, other), (((("a", 0),) * (399 * 9)), ("ask", "a"), ("end", "x")))
        self.assertEqual(within(one, other)[1:], (("ask", "a"), ("end", "x")))
        self.assertEqual(len(pairs(one, one)), 3991)
        longer = one.then({"x": chain.then({"x": chain})})
        handler = parting_handler(longer, longer.then({"x": Body({}, [("end", "y")])}))
        again = fused(handler, Handler({}, {"b": 1}, "s", {}, {("s", "one"): [("ask", "b", [1]), ("finish", "two")]}))
        self.assertEqual((len(handler.states()), len(again.states())), (4789, 4789))
        self.assertEqual(unmet(again), [])
        self.assertEqual(shown(one, [("a", 0)] * 2000), ("ask", "a"))


if __name__ == "__main__":
    unittest.main()
