"""[4]: lengths and beats that are refused, by each function that takes them."""

import unittest

from canonwheel.beats import beat_counts, is_partner, made_beat
from canonwheel.errors import NoBeat, NoWheel
from canonwheel.turns import first_turn, multiplied, own_turn, repeated, spread, turned

BIG = 10 ** 29 + 7

# Each takes a length and a beat; where starts are taken, the beat stands as each of the two.
TAKE_A_BEAT = {
    "beat_counts, beat": lambda length, beat: beat_counts(length, beat, [0]),
    "beat_counts, starts": lambda length, beat: beat_counts(length, [0], beat),
    "is_partner, beat": lambda length, beat: is_partner(length, beat, [0]),
    "is_partner, starts": lambda length, beat: is_partner(length, [0], beat),
    "turned": lambda length, beat: turned(length, beat),
    "turned by 0": lambda length, beat: turned(length, beat, 0),
    "multiplied": lambda length, beat: multiplied(length, beat, 1),
    "multiplied by 0": lambda length, beat: multiplied(length, beat, 0),
    "repeated": lambda length, beat: repeated(length, beat, 1),
    "repeated 0 times": lambda length, beat: repeated(length, beat, 0),
    "repeated very often": lambda length, beat: repeated(length, beat, 61),
    "spread": lambda length, beat: spread(length, beat, 1),
    "spread 0 times": lambda length, beat: spread(length, beat, 0),
    "spread very often": lambda length, beat: spread(length, beat, 61),
    "own_turn": own_turn,
    "first_turn": first_turn,
}
TAKE_A_LENGTH = dict(TAKE_A_BEAT)
TAKE_A_LENGTH["made_beat"] = made_beat
TAKE_A_LENGTH["beat_counts, both"] = lambda length, beat: beat_counts(length, beat, beat)
TAKE_A_LENGTH["is_partner, both"] = lambda length, beat: is_partner(length, beat, beat)

NO_LENGTHS = [0, -1, -2, -59, -60, -61, 61, 62, 120, 1000, BIG, -BIG]
ANY_LISTS = [[], [0], [0, 1], [0, 0], [1, 0], [-1], [60], [61], [BIG], ["x"], [None, "y"], [[0]], [(0, 1), 2]]


def lists_that_are_no_beat(length):
    last = length - 1
    lists = [[], [-1], [length], [-BIG], [BIG], [-length], [0, 0], [last, last], [0, length], [-1, 0]]
    if length >= 3:
        lists += [[1, 0], [last, 0], [0, 2, 1], [1, 0, 2], [0, 1, 1], [0, 0, 1], [0, 1, 0]]
        lists += [[-1, 0, 1], [0, -1, 1], [0, 1, -1], [length, 0, 1], [0, length, 1], [0, 1, length]]
    if length >= 5:
        lists += [[0, 1, 2, 2, 4], [0, 1, 3, 2, 4], [4, 3, 2, 1, 0], [0, 1, 2, 3, length + 1], [0, BIG, 3]]
    return lists


class Refusals(unittest.TestCase):
    def test_no_wheel_whatever_the_list(self):
        for name, call in TAKE_A_LENGTH.items():
            for length in NO_LENGTHS:
                for numbers in ANY_LISTS:
                    with self.subTest(name=name, length=length, numbers=numbers):
                        with self.assertRaises(NoWheel):
                            call(length, list(numbers))

    def test_no_beat_next(self):
        for name, call in TAKE_A_BEAT.items():
            for length in [1, 2, 3, 5, 8, 31, 59, 60]:
                for numbers in lists_that_are_no_beat(length):
                    with self.subTest(name=name, length=length, numbers=numbers):
                        with self.assertRaises(NoBeat):
                            call(length, list(numbers))

    def test_two_lists_that_are_no_beats(self):
        for call in [beat_counts, is_partner]:
            with self.assertRaises(NoBeat):
                call(4, [], [4])
            with self.assertRaises(NoWheel):
                call(61, [], [4])

    def test_lengths_at_the_edges_are_taken(self):
        for length in [1, 60]:
            whole = list(range(length))
            self.assertEqual(made_beat(length, whole), whole)
            self.assertEqual(beat_counts(length, whole, [0]), [1] * length)
            self.assertIs(is_partner(length, [0], whole), True)
            self.assertEqual(turned(length, whole), whole)
            self.assertEqual(turned(length, [length - 1]), [0])
            self.assertEqual(multiplied(length, whole, -1), whole)
            self.assertEqual(repeated(length, [0], 1), [0])
            self.assertEqual(spread(length, [length - 1], 1), [length - 1])
            self.assertEqual(own_turn(length, [0]), length)
            self.assertEqual(first_turn(length, [length - 1]), [0])


if __name__ == "__main__":
    unittest.main()
