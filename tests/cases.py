"""What several tests do."""

import unittest


class ErrorCase(unittest.TestCase):
    def assert_error(self, kind, index, ask, *arguments):
        """Assert that a call raises an error of just this class, with this index."""
        with self.assertRaises(kind) as caught:
            ask(*arguments)
        self.assertIs(caught.exception.__class__, kind)
        self.assertEqual(repr(caught.exception.index), repr(index))

    def assert_plain_error(self, kind, ask, *arguments):
        """Assert that a call raises an error of just this class."""
        with self.assertRaises(kind) as caught:
            ask(*arguments)
        self.assertIs(caught.exception.__class__, kind)
