"""The classes of errors, and their fields."""

import unittest

from rateflows import errors

WITH_INDEX = ("BadFlow", "BadMarks", "BadWord", "BadCounts", "BadRoom", "BadCode", "BadTimes")
PLAIN = ("BadBox", "BadPipe", "BadFiring", "NotBalanced", "NotLive", "BadLoop", "BadSet", "BadOrder", "BadCount",
         "NotText")
FIELDS = {name: "index" for name in WITH_INDEX} | {"InvalidText": "place", "TooMany": "most"}


class ErrorsTest(unittest.TestCase):
    def test_base_class(self):
        self.assertEqual(errors.FlowError.__bases__, (ValueError,))

    def test_all_are_direct_subclasses(self):
        for name in (*FIELDS, *PLAIN):
            with self.subTest(name):
                self.assertEqual(getattr(errors, name).__bases__, (errors.FlowError,))

    def test_there_are_no_others(self):
        names = sorted(kind.__name__ for kind in errors.FlowError.__subclasses__())
        self.assertEqual(names, sorted((*FIELDS, *PLAIN)))

    def test_all_are_defined_there(self):
        for name in ("FlowError", *FIELDS, *PLAIN):
            self.assertEqual(getattr(errors, name).__module__, "rateflows.errors")

    def test_fields_are_set_when_created(self):
        for name, field in FIELDS.items():
            for value in (0, 7, 2000):
                with self.subTest(name, value=value):
                    kind = getattr(errors, name)
                    self.assertEqual(vars(kind(value)), {field: value})
                    self.assertEqual(vars(kind(**{field: value})), {field: value})

    def test_an_index_may_be_none(self):
        for name in WITH_INDEX:
            with self.subTest(name):
                self.assertEqual(vars(getattr(errors, name)(None)), {"index": None})

    def test_others_have_no_field(self):
        for name in PLAIN:
            with self.subTest(name):
                self.assertEqual(vars(getattr(errors, name)()), {})

    def test_each_has_words(self):
        for name in FIELDS:
            self.assertIn("7", str(getattr(errors, name)(7)))


if __name__ == "__main__":
    unittest.main()
