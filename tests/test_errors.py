"""Promises [12] and [3]: the classes of the errors."""

import unittest

from bitstages import errors

PLAIN = ["InvalidBits", "InvalidPlace", "InvalidStage", "InvalidOrder", "InvalidNumber", "InvalidCommand",
         "UnlikeBits", "Impossible", "NothingToUndo"]
FIELDS = {"InvalidMapping": "index", "InvalidMasks": "index", "InvalidValues": "index", "InvalidRun": "index",
          "InvalidWays": "index", "InvalidText": "word", "TooLarge": "limit", "OutOfTurn": "bit", "Refused": "count"}


class ErrorsTest(unittest.TestCase):

    def test_stage_error_is_a_value_error(self):
        self.assertTrue(issubclass(errors.StageError, ValueError))
        self.assertIsInstance(errors.StageError("text"), ValueError)

    def test_each_is_a_direct_subclass(self):
        for name in PLAIN + list(FIELDS):
            with self.subTest(name):
                self.assertIn(errors.StageError, getattr(errors, name).__bases__)

    def test_they_are_different_classes(self):
        classes = [getattr(errors, name) for name in PLAIN + list(FIELDS) + ["StageError"]]
        self.assertEqual(len(set(classes)), 19)

    def test_fields(self):
        for name, field in FIELDS.items():
            for value in (None, 0, 1, 59, 400, 2 ** 70):
                with self.subTest(name, value=value):
                    kind = getattr(errors, name)
                    self.assertEqual(getattr(kind(value), field), value)
                    self.assertEqual(getattr(kind(**{field: value}), field), value)
                    self.assertIs(type(getattr(kind(value), field)), type(value))

    def test_fields_are_of_each_object(self):
        for name, field in FIELDS.items():
            with self.subTest(name):
                kind = getattr(errors, name)
                first, second = kind(3), kind(4)
                self.assertEqual([getattr(first, field), getattr(second, field)], [3, 4])

    def test_others_take_one_string(self):
        for name in PLAIN + ["StageError"]:
            for text in ("", "some text"):
                with self.subTest(name):
                    self.assertIsInstance(getattr(errors, name)(text), errors.StageError)

    def test_they_are_raised_and_caught(self):
        for name in PLAIN:
            with self.subTest(name), self.assertRaises(errors.StageError):
                raise getattr(errors, name)("text")
        for name, field in FIELDS.items():
            with self.subTest(name):
                with self.assertRaises(errors.StageError) as caught:
                    raise getattr(errors, name)(7)
                self.assertEqual(getattr(caught.exception, field), 7)


if __name__ == "__main__":
    unittest.main()
