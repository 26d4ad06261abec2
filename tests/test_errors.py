"""The classes of canonwheel.errors."""

import unittest

from canonwheel import errors
from canonwheel.beats import is_partner
from canonwheel.cases import sought_partner
from canonwheel.desk import Desk
from canonwheel.lines import line_step
from canonwheel.mixes import mix_count, sought_mix
from canonwheel.parts import part
from canonwheel.rules import made_partner
from canonwheel.sums import sum_divided
from canonwheel.texts import read_beat
from canonwheel.tori import laid_flat, torus_partner

REFUSALS = [
    "NoWheel", "NoBeat", "NoPart", "NoRule", "NoWindow", "NoPair",
    "NoText", "NoName", "NoNumber", "NoDeed", "TooMany",
]

# Calls that are refused, with the name of the class.
REFUSED = [
    ("NoWheel", is_partner, 61, [0], [0]),
    ("NoWheel", sought_mix, 0, [[0]]),
    ("NoWheel", torus_partner, (7, 9), [(0, 0)], [(0, 0)]),
    ("NoBeat", is_partner, 60, [1, 0], [0]),
    ("NoBeat", mix_count, 4, []),
    ("NoBeat", torus_partner, (2, 3), [(2, 0)], [(0, 0)]),
    ("NoPart", part, 61),
    ("NoPart", sum_divided, [1], []),
    ("NoRule", made_partner, 12, [0, 4]),
    ("NoWindow", line_step, [0, 2], 4),
    ("NoPair", laid_flat, (2, 2), [(0, 0)]),
    ("NoText", read_beat, "X"),
    ("NoText", Desk().say, "beat a X"),
    ("NoName", Desk().say, "show a"),
    ("NoName", Desk().say, "beat A x"),
    ("NoNumber", lambda desk: [desk.say("beat a x"), desk.say("turn a a 01")], Desk()),
    ("NoDeed", Desk().say, "nothing"),
    ("TooMany", sought_partner, 57, [33, 40, 47]),
    ("TooMany", mix_count, 60, [[0, 30]]),
]


class ErrorClasses(unittest.TestCase):
    def test_wheel_error_stands_straight_under_value_error(self):
        self.assertEqual(errors.WheelError.__bases__, (ValueError,))

    def test_each_refusal_stands_straight_under_wheel_error(self):
        for name in REFUSALS:
            with self.subTest(name=name):
                self.assertEqual(getattr(errors, name).__bases__, (errors.WheelError,))

    def test_no_refusal_is_another_one(self):
        classes = [getattr(errors, name) for name in REFUSALS]
        self.assertEqual(len(set(classes)), 11)
        for one in classes:
            for other in classes:
                with self.subTest(one=one, other=other):
                    self.assertEqual(issubclass(one, other), one is other)

    def test_each_bears_its_name(self):
        for name in REFUSALS + ["WheelError"]:
            with self.subTest(name=name):
                self.assertEqual(getattr(errors, name).__name__, name)

    def test_each_is_met_as_its_own_class_and_no_other(self):
        self.assertEqual({name for name, *rest in REFUSED}, set(REFUSALS))
        for name, call, *arguments in REFUSED:
            with self.subTest(name=name, call=call, arguments=arguments):
                with self.assertRaises(ValueError) as caught:
                    call(*arguments)
                self.assertIs(type(caught.exception), getattr(errors, name))
                self.assertIsInstance(caught.exception, errors.WheelError)
                for other in REFUSALS:
                    self.assertEqual(isinstance(caught.exception, getattr(errors, other)), other == name)

    def test_each_may_be_raised_and_taken(self):
        for name in REFUSALS:
            with self.subTest(name=name):
                with self.assertRaises(errors.WheelError):
                    raise getattr(errors, name)("words")


if __name__ == "__main__":
    unittest.main()
