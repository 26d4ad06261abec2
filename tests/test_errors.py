"""The classes of canonwheel.errors."""

import unittest

from canonwheel import errors

REFUSALS = [
    "NoWheel", "NoBeat", "NoPart", "NoRule", "NoWindow", "NoPair",
    "NoText", "NoName", "NoNumber", "NoDeed", "TooMany",
]


class ErrorClasses(unittest.TestCase):
    def test_wheel_error_stands_straight_under_value_error(self):
        self.assertEqual(errors.WheelError.__bases__, (ValueError,))

    def test_each_refusal_stands_straight_under_wheel_error(self):
        for name in REFUSALS:
            with self.subTest(name=name):
                self.assertEqual(getattr(errors, name).__bases__, (errors.WheelError,))

    def test_no_refusal_is_another_one(self):
        classes = [getattr(errors, name) for name in REFUSALS]
        self.assertEqual(len(set(classes)), 11)
        for one in classes:
            for other in classes:
                with self.subTest(one=one, other=other):
                    self.assertEqual(issubclass(one, other), one is other)

    def test_each_bears_its_name(self):
        for name in REFUSALS + ["WheelError"]:
            with self.subTest(name=name):
                self.assertEqual(getattr(errors, name).__name__, name)

    def test_each_may_be_raised_and_taken(self):
        for name in REFUSALS:
            with self.subTest(name=name):
                with self.assertRaises(errors.WheelError):
                    raise getattr(errors, name)("words")


if __name__ == "__main__":
    unittest.main()
