"""Trails, beneath what parts two handlers."""

import itertools
import random
import time
import unittest

from askfurther.trails import Trails, history_of, is_ahead


class Trailed(unittest.TestCase):
    def test_drawn(self):
        chance = random.Random(192)
        for _ in range(100):
            trails, made = Trails(), {(): 0}
            for _ in range(60):
                # Mostly longer and longer ones, parted here and there.
                history = chance.choice(sorted(made, key=len)[-12:])
                for _ in range(chance.randrange(1, 6)):
                    element = (chance.choice("ab"), chance.choice([0, 0, 0, 1]))
                    number = trails.behind(made[history], *element)
                    history += (element,)
                    self.assertEqual(made.setdefault(history, number), number)
            self.assertEqual(len(set(made.values())), len(made))
            for history, number in made.items():
                self.assertEqual(history_of(trails, number), history)
            for one, other in itertools.combinations(made, 2):
                if len(one) == len(other):
                    self.assertIs(is_ahead(trails, made[one], made[other]), one < other)
                    self.assertIs(is_ahead(trails, made[other], made[one]), other < one)

    def test_long_ones_that_parted_early(self):
        begun = time.monotonic()
        trails = Trails()
        one, other = trails.behind(0, "b", 0), trails.behind(0, "a", 1)
        for _ in range(50000):
            one, other = trails.behind(one, "a", 0), trails.behind(other, "b", 1)
            self.assertFalse(is_ahead(trails, one, other))
            self.assertTrue(is_ahead(trails, other, one))
        self.assertEqual(len(history_of(trails, one)), 50001)
        self.assertLess(time.monotonic() - begun, 10)


if __name__ == "__main__":
    unittest.main()
