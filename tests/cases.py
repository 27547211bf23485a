"""What several tests do."""

import unittest


class ErrorCase(unittest.TestCase):
    def assert_fields(self, kind, fields, ask, *arguments):
        """Assert that a call raises an error of just this class, with just these fields."""
        with self.assertRaises(kind) as caught:
            ask(*arguments)
        self.assertIs(caught.exception.__class__, kind)
        self.assertEqual(repr(vars(caught.exception)), repr(fields))

    def assert_error(self, kind, index, ask, *arguments):
        """Assert that a call raises an error of just this class, with this index."""
        self.assert_fields(kind, {"index": index}, ask, *arguments)

    def assert_plain_error(self, kind, ask, *arguments):
        """Assert that a call raises an error of just this class, which has no field."""
        self.assert_fields(kind, {}, ask, *arguments)
