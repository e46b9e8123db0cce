"""Things parted into as few groups as can be, beneath least bodies and fused handlers."""

import random
import time
import unittest

from askfurther.leasts import Parting, groups_in, groups_of, numbered, sources_of


def by_rounds(marks, nexts):
    """The group of each thing: all are parted round by round by their groups and those of their nexts."""
    groups, many = list(marks), 0
    while len(set(groups)) > many:
        many = len(set(groups))
        numbers = {}
        kinds = [(group, tuple(groups[thing] for thing in row)) for group, row in zip(groups, nexts)]
        groups = [numbers.setdefault(kind, len(numbers)) for kind in kinds]
    return groups


class Groups(unittest.TestCase):
    def holds(self, marks, nexts):
        self.parted_rightly(groups_in(Parting(numbered(marks)), sources_of(nexts)), marks, nexts)
        return self.parted_rightly(groups_of(marks, nexts), marks, nexts)

    def parted_rightly(self, told, marks, nexts):
        self.assertEqual(len(told), len(marks))
        self.assertEqual(sorted(set(told)), list(range(len(set(told)))))
        self.assertEqual(len(set(zip(told, by_rounds(marks, nexts)))), len(set(by_rounds(marks, nexts))))
        self.assertEqual(len(set(told)), len(set(by_rounds(marks, nexts))))
        return told

    def test_few_things(self):
        self.assertEqual(groups_of([], []), [])
        self.assertEqual(self.holds(["a"], [(0, 0)]), [0])
        self.assertEqual(self.holds(["a", "a"], [(1,), (0,)]), [0, 0])
        self.assertEqual(self.holds(["a", "b"], [(), ()]), [0, 1])
        self.assertEqual(len(set(self.holds(["a", "a", "b"], [(1,), (2,), ()]))), 3)

    def test_drawn(self):
        chance = random.Random(98)
        for _ in range(2000):
            many, last = chance.randrange(1, 50), chance.randrange(1, 6)
            marks = [chance.randrange(last + 1) for _ in range(many)]
            nexts = []
            for at, mark in enumerate(marks):
                row = [chance.choice([(at + 1) % many, (at + 1) % many, chance.randrange(many)]),
                       chance.choice([at, 2 * at % many, chance.randrange(many)])]
                nexts.append(tuple((row + row)[:2 + mark % 2] if mark < last else ()))
            self.holds(marks, nexts)

    def test_many_things_in_seconds(self):
        begun = time.monotonic()
        many = 50000
        chain = [("go", at == many - 1) for at in range(many)]
        self.assertEqual(len(set(groups_of(chain, [(min(at + 1, many - 1),) for at in range(many)]))), many)
        self.assertEqual(set(groups_of(["a"] * many, [((at + 1) % many, 7 * at % many) for at in range(many)])), {0})
        self.assertLess(time.monotonic() - begun, 20)


if __name__ == "__main__":
    unittest.main()
