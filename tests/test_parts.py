"""[11] and [12]: the parts, and which of them a beat has."""

import unittest
from math import gcd
from random import Random

from canonwheel.errors import NoPart
from canonwheel.parts import divisors, has_part, part, parts_had
from canonwheel.turns import turned
from helpers import BIG, all_beats, divisors_above_one, plain_product, refusal, vanishes

NO_NUMBERS = [0, -1, -2, -59, -60, -61, 61, 62, 120, BIG, -BIG]


class Divisors(unittest.TestCase):
    def test_some(self):
        self.assertEqual(divisors(1), [1])
        self.assertEqual(divisors(12), [1, 2, 3, 4, 6, 12])
        self.assertEqual(divisors(49), [1, 7, 49])
        self.assertEqual(divisors(59), [1, 59])
        self.assertEqual(divisors(60), [1, 2, 3, 4, 5, 6, 10, 12, 15, 20, 30, 60])

    def test_each(self):
        for number in range(1, 61):
            self.assertEqual(divisors(number), [1] + divisors_above_one(number))

    def test_no_part(self):
        for number in NO_NUMBERS:
            self.assertIs(refusal(divisors, number), NoPart)

    def test_by_name(self):
        self.assertEqual(divisors(number=4), [1, 2, 4])


class Parts(unittest.TestCase):
    def test_written_out(self):
        self.assertEqual(part(1), [-1, 1])
        self.assertEqual(part(2), [1, 1])
        self.assertEqual(part(3), [1, 1, 1])
        self.assertEqual(part(4), [1, 0, 1])
        self.assertEqual(part(6), [1, -1, 1])
        self.assertEqual(part(9), [1, 0, 0, 1, 0, 0, 1])
        self.assertEqual(part(12), [1, 0, -1, 0, 1])
        self.assertEqual(part(15), [1, -1, 0, 1, -1, 1, 0, -1, 1])
        self.assertEqual(part(30), [1, 1, 0, -1, -1, -1, 0, 1, 1])
        self.assertEqual(part(59), [1] * 59)
        self.assertEqual(part(60), [1, 0, 1, 0, 0, 0, -1, 0, -1, 0, -1, 0, 0, 0, 1, 0, 1])

    def test_parts_of_all_divisors_multiplied(self):
        for number in range(1, 61):
            product = [1]
            for divisor in [1] + divisors_above_one(number):
                product = plain_product(product, part(divisor))
            self.assertEqual(product, [-1] + [0] * (number - 1) + [1])

    def test_sizes_and_last_numbers(self):
        for number in range(1, 61):
            told = part(number)
            self.assertEqual(len(told) - 1, len([low for low in range(1, number + 1) if gcd(low, number) == 1]))
            self.assertEqual(told[-1], 1)

    def test_no_part(self):
        for number in NO_NUMBERS:
            self.assertIs(refusal(part, number), NoPart)

    def test_by_name(self):
        self.assertEqual(part(number=5), [1, 1, 1, 1, 1])


class HasPart(unittest.TestCase):
    def test_had(self):
        self.assertIs(has_part([0, 1], 2), True)
        self.assertIs(has_part([0, 3], 6), True)
        self.assertIs(has_part([0, 3], 2), True)
        self.assertIs(has_part([1, 2, 6], 3), True)
        self.assertIs(has_part([5, 7], 4), True)
        self.assertIs(has_part(list(range(60)), 60), True)
        self.assertIs(has_part([0, 30], 60), True)

    def test_not_had(self):
        self.assertIs(has_part([0, 1], 3), False)
        self.assertIs(has_part([0, 2], 2), False)
        self.assertIs(has_part([0, 3], 3), False)
        self.assertIs(has_part([0], 2), False)
        self.assertIs(has_part(list(range(59)), 60), False)

    def test_a_beat_has_never_the_first_part(self):
        for beat in all_beats(6) + [[60], list(range(61))]:
            self.assertIs(has_part(beat, 1), False)

    def test_places_up_to_sixty(self):
        self.assertIs(has_part([0, 60], 8), True)
        self.assertIs(has_part([0, 60], 4), False)
        self.assertIs(has_part([60], 60), False)
        self.assertIs(has_part([1, 3, 60], 3), False)
        self.assertIs(has_part([1, 2, 60], 3), True)
        self.assertIs(has_part(list(range(61)), 60), False)
        self.assertIs(has_part([30, 60], 60), True)

    def test_somewhat_beyond_nothing_is_refused(self):
        self.assertIs(has_part([0, 65], 2), True)
        self.assertIs(has_part([0, 66], 2), False)

    def test_told_otherwise(self):
        chance = Random(12)
        beats = all_beats(7)
        for size in [2, 3, 4, 6, 12, 20, 30, 45, 60, 61]:
            beats.append(sorted(chance.sample(range(61), size)))
        for beat in beats:
            for number in range(1, 61):
                self.assertIs(has_part(beat, number), vanishes(beat, number), (beat, number))

    def test_each_part_is_had_by_some_beat(self):
        for number in range(2, 61):
            self.assertIs(has_part(list(range(number)), number), True)
            self.assertIs(has_part(list(range(number - 1)), number), False)

    def test_no_part(self):
        for number in NO_NUMBERS:
            for beat in [[0], [0, 1], list(range(61))]:
                self.assertIs(refusal(has_part, beat, number), NoPart)

    def test_by_name(self):
        self.assertIs(has_part(beat=[0, 1], number=2), True)


class PartsHad(unittest.TestCase):
    def test_some(self):
        self.assertEqual(parts_had(12, [0, 1]), [2])
        self.assertEqual(parts_had(12, [0, 6]), [4, 12])
        self.assertEqual(parts_had(12, [0, 1, 2, 3]), [2, 4])
        self.assertEqual(parts_had(12, [0, 1, 4, 5, 8, 9]), [2, 3, 6, 12])
        self.assertEqual(parts_had(60, [0, 1, 2, 30, 31, 32]), [3, 4, 12, 20, 60])

    def test_none(self):
        self.assertEqual(parts_had(12, [0]), [])
        self.assertEqual(parts_had(12, [0, 1, 2, 3, 4]), [])
        self.assertEqual(parts_had(7, [0, 1, 2]), [])
        self.assertEqual(parts_had(60, [59]), [])

    def test_a_part_of_no_divisor_is_left_out(self):
        self.assertIs(has_part([0, 1, 2], 3), True)
        self.assertEqual(parts_had(8, [0, 1, 2]), [])
        self.assertEqual(parts_had(4, [0, 1, 2]), [])

    def test_the_whole_wheel_has_all(self):
        for length in range(1, 61):
            self.assertEqual(parts_had(length, list(range(length))), divisors_above_one(length))

    def test_length_one(self):
        self.assertEqual(parts_had(1, [0]), [])

    def test_told_otherwise(self):
        chance = Random(13)
        asked = [(length, beat) for length in range(1, 11) for beat in all_beats(length)]
        for length in range(11, 61):
            asked += [(length, sorted(chance.sample(range(length), size))) for size in [1, 2, 4, 6, length - 1]]
            for divisor in divisors_above_one(length):
                asked.append((length, list(range(0, length, divisor))))
        for length, beat in asked:
            had = [number for number in divisors_above_one(length) if vanishes(beat, number)]
            self.assertEqual(parts_had(length, beat), had, (length, beat))

    def test_kept_when_turned(self):
        for length, beat in [(12, [0, 1, 6, 7]), (30, [0, 6, 12, 18, 24]), (60, [0, 1, 2, 30, 31, 32])]:
            for by in range(length):
                self.assertEqual(parts_had(length, turned(length, beat, by)), parts_had(length, beat))

    def test_by_name(self):
        self.assertEqual(parts_had(length=6, beat=[0, 3]), [2, 6])


if __name__ == "__main__":
    unittest.main()
