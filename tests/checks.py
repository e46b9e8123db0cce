"""What the tests share."""

import unittest


class Checks(unittest.TestCase):
    def refused(self, kind, call, *fields):
        """The call raises just this error, its field being this."""
        with self.assertRaises(kind) as caught:
            call()
        self.assertIs(type(caught.exception), kind)
        self.assertEqual(list(vars(caught.exception).values()), list(fields))
        return caught.exception
