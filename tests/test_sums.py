"""[10]: sums of powers, multiplied and divided."""

import unittest
from random import Random

from canonwheel.errors import NoPart
from canonwheel.sums import beat_sum, sum_divided, sum_product
from helpers import BIG, plain_product, plain_total, refusal

MOST = 10 ** 30 - 1

SUMS = [
    [], [1], [-1], [0, 1], [1, 1], [-1, 1], [0, 0, 0, 5], [2, 0, -3], [1, 0, 0, 1], [MOST], [-MOST, 0, MOST],
    [0, -BIG, 0, 0, BIG, 3], [1, -2, 3, -4, 5, -6], [7, 0, 0, 0, 0, 0, -1], [0] * 40 + [-BIG],
]
DIVISORS = [
    [1], [0, 1], [1, 1], [-1, 1], [BIG, 1], [0, 0, 1], [1, 1, 1], [-3, 0, 2, 1], [MOST, -MOST, 0, 1], [0] * 39 + [1],
    [1, 0, 0, 0, -BIG, 0, 1],
]


def chance_sum(chance, size):
    numbers = [chance.choice([0, 0, chance.randint(-9, 9), chance.randint(-MOST, MOST)]) for at in range(size)]
    if size > 0:
        numbers[-1] = chance.choice([1, -1, MOST, -MOST])
    return numbers


class BeatSum(unittest.TestCase):
    def test_one_at_its_places(self):
        self.assertEqual(beat_sum([0, 1, 3]), [1, 1, 0, 1])
        self.assertEqual(beat_sum([2, 5]), [0, 0, 1, 0, 0, 1])
        self.assertEqual(beat_sum([0]), [1])
        self.assertEqual(beat_sum([4]), [0, 0, 0, 0, 1])

    def test_of_none(self):
        self.assertEqual(beat_sum([]), [])

    def test_up_to_the_last_place(self):
        self.assertEqual(beat_sum([129]), [0] * 129 + [1])
        self.assertEqual(beat_sum([0, 129]), [1] + [0] * 128 + [1])
        self.assertEqual(beat_sum(list(range(130))), [1] * 130)

    def test_beyond_it_nothing_is_refused(self):
        self.assertEqual(beat_sum([3, 140]), [0, 0, 0, 1] + [0] * 136 + [1])

    def test_by_name(self):
        self.assertEqual(beat_sum(beat=[1]), [0, 1])


class Product(unittest.TestCase):
    def test_some(self):
        self.assertEqual(sum_product([1, 1], [1, 1]), [1, 2, 1])
        self.assertEqual(sum_product([1, 1], [-1, 1]), [-1, 0, 1])
        self.assertEqual(sum_product([0, 2], [0, 0, -3]), [0, 0, 0, -6])
        self.assertEqual(sum_product([1, 2, 3], [4, 5]), [4, 13, 22, 15])

    def test_nought_on_either_side(self):
        for numbers in SUMS:
            self.assertEqual(sum_product([], numbers), [])
            self.assertEqual(sum_product(numbers, []), [])

    def test_one_on_either_side(self):
        for numbers in SUMS:
            self.assertEqual(sum_product([1], numbers), numbers)
            self.assertEqual(sum_product(numbers, [1]), numbers)

    def test_great_numbers(self):
        self.assertEqual(sum_product([MOST], [MOST]), [10 ** 60 - 2 * 10 ** 30 + 1])
        self.assertEqual(sum_product([0, -MOST], [0, BIG]), [0, 0, -MOST * BIG])
        self.assertEqual(sum_product([BIG, 1], [-BIG, 1]), [-BIG * BIG, 0, 1])

    def test_power_by_power(self):
        for one in SUMS + DIVISORS:
            for other in SUMS + DIVISORS:
                self.assertEqual(sum_product(one, other), plain_product(one, other))

    def test_of_most_numbers(self):
        ones = [1] * 130
        self.assertEqual(sum_product(ones, ones), list(range(1, 131)) + list(range(129, 0, -1)))
        chance = Random(10)
        for size in [1, 64, 129, 130, 135]:
            one = chance_sum(chance, 130)
            other = chance_sum(chance, size)
            self.assertEqual(sum_product(one, other), plain_product(one, other))

    def test_one_list_on_both_sides(self):
        numbers = [1, -1, 2]
        self.assertEqual(sum_product(numbers, numbers), [1, -2, 5, -4, 4])
        self.assertEqual(numbers, [1, -1, 2])

    def test_by_name(self):
        self.assertEqual(sum_product(one=[2], other=[0, 3]), [0, 6])


class Divided(unittest.TestCase):
    def check(self, one, other):
        told = sum_divided(one, other)
        self.assertIs(type(told), tuple)
        share, rest = told
        self.assertEqual([type(share), type(rest)], [list, list])
        for numbers in (share, rest):
            self.assertTrue(numbers == [] or numbers[-1] != 0, (one, other, told))
        self.assertLess(len(rest), len(other))
        self.assertEqual(plain_total(plain_product(share, other), rest), one)

    def test_some(self):
        self.assertEqual(sum_divided([-1, 0, 1], [1, 1]), ([-1, 1], []))
        self.assertEqual(sum_divided([1, 2, 3, 4], [1, 1]), ([3, -1, 4], [-2]))
        self.assertEqual(sum_divided([5, 0, 0, 2], [1, 0, 1]), ([0, 2], [5, -2]))
        self.assertEqual(sum_divided([0, 0, 0, 0, 1], [-2, 1]), ([8, 4, 2, 1], [16]))

    def test_no_share(self):
        self.assertEqual(sum_divided([3, 4], [0, 0, 1]), ([], [3, 4]))
        self.assertEqual(sum_divided([-BIG], [1, 1]), ([], [-BIG]))
        self.assertEqual(sum_divided([0, 7], [1, 1, 1]), ([], [0, 7]))

    def test_no_rest(self):
        self.assertEqual(sum_divided([0, 0, 6], [0, 1]), ([0, 6], []))
        self.assertEqual(sum_divided([4, 4, 4], [1, 1, 1]), ([4], []))

    def test_a_rest_ends_with_no_nought(self):
        self.assertEqual(sum_divided([5, 1, 1, 1], [0, 1, 1, 1]), ([1], [5]))
        self.assertEqual(sum_divided([0, 3, 1, 1, 1], [0, 0, 1, 1, 1]), ([1], [0, 3]))
        self.assertEqual(sum_divided([0, 0, 0, 1], [0, 0, 0, 1]), ([1], []))

    def test_nought_is_divided(self):
        for divisor in DIVISORS:
            self.assertEqual(sum_divided([], divisor), ([], []))

    def test_by_one(self):
        for numbers in SUMS:
            self.assertEqual(sum_divided(numbers, [1]), (numbers, []))

    def test_by_itself(self):
        for divisor in DIVISORS:
            self.assertEqual(sum_divided(divisor, divisor), ([1], []))

    def test_share_times_divisor_and_rest_come_to_the_sum(self):
        for one in SUMS + DIVISORS:
            for other in DIVISORS:
                self.check(one, other)

    def test_a_product_gives_its_factor_back(self):
        for one in SUMS:
            for other in DIVISORS:
                self.assertEqual(sum_divided(plain_product(one, other), other), (one, []))

    def test_of_most_numbers(self):
        chance = Random(11)
        for size in [1, 2, 65, 129, 130, 131]:
            divisor = chance_sum(chance, size)[:-1] + [1]
            for length in [0, 1, 64, 129, 130, 135]:
                self.check(chance_sum(chance, length), divisor)

    def test_no_part(self):
        for other in [[], [0, 2], [2], [-1], [1, -1], [1, 1, 3], [1, BIG], [1, -BIG], [MOST]]:
            for one in SUMS + [[1] * 130, list(other)]:
                with self.subTest(one=one, other=other):
                    self.assertIs(refusal(sum_divided, one, other), NoPart)

    def test_both_lists_told_are_made_for_that_answer(self):
        for one, other in [([], [1]), ([3, 4], [0, 0, 1]), ([1], [1]), ([1, 2, 3], [1, 1])]:
            handed = (list(one), list(other))
            share, rest = sum_divided(*handed)
            kept = list(rest)
            share.append(8)
            self.assertEqual(rest, kept)
            rest.append(9)
            self.assertEqual(handed, (one, other))

    def test_by_name(self):
        self.assertEqual(sum_divided(one=[0, 3], other=[1, 1]), ([3], [-3]))


if __name__ == "__main__":
    unittest.main()
