"""[5] and [8]: beats that are made, and counts."""

import unittest

from canonwheel.beats import beat_counts, is_partner, made_beat
from canonwheel.errors import NoBeat
from canonwheel.turns import turned
from helpers import BIG, all_beats


class MadeBeat(unittest.TestCase):
    def test_any_order(self):
        self.assertEqual(made_beat(8, [5, 0, 3]), [0, 3, 5])
        self.assertEqual(made_beat(8, [7, 6, 5, 4, 3, 2, 1, 0]), [0, 1, 2, 3, 4, 5, 6, 7])

    def test_any_sign(self):
        self.assertEqual(made_beat(8, [-1]), [7])
        self.assertEqual(made_beat(8, [9, -8]), [0, 1])
        self.assertEqual(made_beat(12, [-13, 25, -2, 12]), [0, 1, 10, 11])
        self.assertEqual(made_beat(60, [-60, -1, 61]), [0, 1, 59])

    def test_thirty_figures(self):
        self.assertEqual(made_beat(10, [10 ** 29 + 7, -(10 ** 29) - 4]), [6, 7])
        self.assertEqual(made_beat(60, [10 ** 30 - 1]), [39])
        self.assertEqual(made_beat(60, [1 - 10 ** 30]), [21])
        self.assertEqual(made_beat(1, [BIG]), [0])

    def test_a_beat_stays(self):
        for beat in all_beats(6):
            self.assertEqual(made_beat(6, beat), beat)

    def test_none_handed_in(self):
        for length in [1, 7, 60]:
            with self.assertRaises(NoBeat):
                made_beat(length, [])

    def test_two_that_come_to_one_place(self):
        cases = [
            (8, [3, 3]), (8, [3, 11]), (8, [-1, 7]), (8, [0, 1, 2, -8]), (8, [0, 5, 1, 13, 2]),
            (1, [0, 1]), (1, [-5, 5]), (60, [0, 60]), (60, [59, 3, -1]), (7, [BIG, BIG + 7 * BIG]),
            (3, [0, 1, 2, 3]),
        ]
        for length, numbers in cases:
            with self.subTest(length=length, numbers=numbers):
                with self.assertRaises(NoBeat):
                    made_beat(length, numbers)


class Counts(unittest.TestCase):
    def test_counts_of_a_partner(self):
        self.assertEqual(beat_counts(8, [0, 1], [0, 2, 4, 6]), [1] * 8)
        self.assertEqual(beat_counts(8, [3, 7], [0, 1, 2, 3]), [1] * 8)
        self.assertEqual(beat_counts(1, [0], [0]), [1])

    def test_counts_of_others(self):
        self.assertEqual(beat_counts(8, [0, 1], [0, 2, 4, 5]), [1, 1, 1, 1, 1, 2, 1, 0])
        self.assertEqual(beat_counts(5, [0, 2, 3], [1, 4]), [0, 2, 1, 1, 2])
        self.assertEqual(beat_counts(4, [1], [2]), [0, 0, 0, 1])
        self.assertEqual(beat_counts(3, [0, 1, 2], [0, 1, 2]), [3, 3, 3])

    def test_place_by_place(self):
        for beat in all_beats(5):
            for starts in all_beats(5):
                falls = [(place + start) % 5 for place in beat for start in starts]
                self.assertEqual(beat_counts(5, beat, starts), [falls.count(place) for place in range(5)])

    def test_is_partner_is_true_or_false(self):
        self.assertIs(is_partner(8, [0, 1], [0, 2, 4, 6]), True)
        self.assertIs(is_partner(8, [0, 1], [0, 2, 4, 5]), False)
        self.assertIs(is_partner(8, [0, 1], [0, 2, 4]), False)
        self.assertIs(is_partner(60, [0, 1, 2, 30, 31, 32], list(range(1, 31, 3))), True)
        self.assertIs(is_partner(60, [0, 1, 2, 30, 31, 32], list(range(0, 60, 6))), False)

    def test_each_place_twice_is_no_partner(self):
        self.assertEqual(beat_counts(4, [0, 1], [0, 1, 2, 3]), [2, 2, 2, 2])
        self.assertIs(is_partner(4, [0, 1], [0, 1, 2, 3]), False)

    def test_as_many_falls_as_places_do_not_do(self):
        self.assertEqual(beat_counts(4, [0, 2], [0, 2]), [2, 0, 2, 0])
        self.assertIs(is_partner(4, [0, 2], [0, 2]), False)

    def test_beat_and_starts_changed_about(self):
        for beat in all_beats(6):
            for starts in all_beats(6):
                self.assertEqual(beat_counts(6, beat, starts), beat_counts(6, starts, beat))
                self.assertIs(is_partner(6, beat, starts), is_partner(6, starts, beat))

    def test_partner_just_where_each_count_is_one(self):
        for beat in all_beats(6):
            for starts in all_beats(6):
                filled = sorted([(place + start) % 6 for place in beat for start in starts])
                self.assertIs(is_partner(6, beat, starts), filled == [0, 1, 2, 3, 4, 5])

    def test_counts_are_turned_with_the_beat(self):
        counts = beat_counts(7, [0, 1, 4], [0, 2])
        self.assertEqual(beat_counts(7, turned(7, [0, 1, 4], 3), [0, 2]), counts[-3:] + counts[:-3])


if __name__ == "__main__":
    unittest.main()
