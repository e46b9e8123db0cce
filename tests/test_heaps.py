"""Heaps, beneath the numbers of asks."""

import random
import unittest

from askfurther.heaps import Heap


class Heaps(unittest.TestCase):
    def test_the_least_comes_first_and_equal_ones_in_order(self):
        chance = random.Random(191)
        for _ in range(300):
            heap, inside, serial = Heap(), [], 0
            top = chance.choice([3, 20, 10 ** 40])
            for _ in range(chance.randrange(1, 80)):
                if inside and chance.random() < 0.4:
                    inside.sort()
                    number, place = inside.pop(0)
                    self.assertEqual(heap.take(), (number, ("thing", place), [place]))
                else:
                    # Things of kinds that cannot be compared may stand beside one another.
                    serial += 1
                    inside.append((chance.randrange(top), serial))
                    heap.put(inside[-1][0], ("thing", serial), [serial])
            self.assertEqual([heap.take()[2][0] for _ in sorted(inside)], [place for _, place in sorted(inside)])
            self.assertEqual(heap.things, [])


if __name__ == "__main__":
    unittest.main()
