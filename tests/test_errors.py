"""Section 16: the errors."""

import pickle
import unittest

from askfurther import errors
from tests.odd import nested

FIELDS = {
    "BadOperations": None, "BadBody": "index", "BadStart": "index", "NoRow": "index", "BadOthers": None,
    "BadHistory": "index", "BadSizes": None, "BadProgram": "place", "BadHandler": "part", "Mismatch": "operation",
    "TooMany": "many", "Parted": "history", "NoState": "state", "NoOperation": "operation", "Apart": "asks",
    "BadAnswer": "answer", "BadChoices": "index", "BadCount": "many", "NoIndex": "index", "Endless": None,
    "BadHandlers": None, "BadWork": "place", "NoEntry": None, "Recursive": "function", "TooLong": "many",
    "NoText": "line",
}
VALUES = [
    0, -1, 4000, 10 ** 5000, True, None, "clauses", "", (), (0, 1, 2), [("coin", 1)], {"a": [1]}, object(), {1, 2},
    nested(90, lambda thing: [thing], []), ValueError("x"), len, b"a",
]


class Errors(unittest.TestCase):
    def made(self, name, value):
        """The error, made by place and by name."""
        field = FIELDS[name]
        kind = getattr(errors, name)
        if field is None:
            return [kind()]
        return [kind(value), kind(**{field: value})]

    def test_there_are_just_these(self):
        there = [name for name, thing in vars(errors).items() if isinstance(thing, type)]
        self.assertEqual(sorted(there), sorted(list(FIELDS) + ["AskError"]))

    def test_fields_keep_what_was_passed(self):
        for name, field in FIELDS.items():
            for value in VALUES:
                for error in self.made(name, value):
                    if field is not None:
                        self.assertIs(getattr(error, field), value)

    def test_each_is_under_ask_error_and_no_other(self):
        for name in FIELDS:
            kind = getattr(errors, name)
            self.assertEqual(kind.__mro__[:3], (kind, errors.AskError, ValueError))
            self.assertEqual(kind.__module__, "askfurther.errors")
            for error in self.made(name, 3):
                self.assertIsInstance(error, ValueError)
        self.assertEqual(errors.AskError.__mro__[:2], (errors.AskError, ValueError))

    def test_each_can_be_raised_and_caught(self):
        for name in FIELDS:
            for error in self.made(name, 3):
                with self.assertRaises(errors.AskError) as caught:
                    raise error
                self.assertIs(caught.exception, error)
                self.assertIsInstance(str(error), str)

    def test_field_is_asked_for(self):
        for name, field in FIELDS.items():
            if field is not None:
                with self.assertRaises(TypeError):
                    getattr(errors, name)()
                with self.assertRaises(TypeError):
                    getattr(errors, name)(1, 2)

    def test_copies_keep_the_field(self):
        for name, field in FIELDS.items():
            again = pickle.loads(pickle.dumps(self.made(name, (1, 2))[0]))
            self.assertIs(type(again), getattr(errors, name))
            if field is not None:
                self.assertEqual(getattr(again, field), (1, 2))


if __name__ == "__main__":
    unittest.main()
