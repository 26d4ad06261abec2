"""[13] and [14]: parts shared out between a beat and starts."""

import unittest
from random import Random

from canonwheel.beats import is_partner
from canonwheel.errors import NoWheel
from canonwheel.shares import prime_powers, shares
from helpers import BIG, PRIMES, all_beats, divisors_above_one, refusal, small_partners, vanishes

PARTNERS = small_partners() + [
    (60, [0, 1, 2, 30, 31, 32], list(range(0, 30, 3))),
    (60, [0, 12, 24, 36, 48], list(range(12))),
    (60, list(range(60)), [59]),
    (36, [0, 10, 12, 22, 24, 34], [0, 4, 8, 9, 13, 17]),
]


def fills_by_shares(length, beat, starts):
    told = shares(length, beat, starts)
    return len(beat) * len(starts) == length and all(one or other for number, one, other in told)


class Shares(unittest.TestCase):
    def test_some(self):
        self.assertEqual(shares(4, [0, 1], [0, 2]), [(2, True, False), (4, False, True)])
        self.assertEqual(shares(6, [0, 3], [0, 2]), [(2, True, False), (3, False, False), (6, True, False)])
        self.assertEqual(
            shares(12, [0, 1, 4, 5, 8, 9], [0, 6]),
            [(2, True, False), (3, True, False), (4, False, True), (6, True, False), (12, True, True)],
        )

    def test_length_one(self):
        self.assertEqual(shares(1, [0], [0]), [])

    def test_length_sixty(self):
        numbers = [2, 3, 4, 5, 6, 10, 12, 15, 20, 30, 60]
        self.assertEqual(shares(60, list(range(60)), [7]), [(number, True, False) for number in numbers])
        self.assertEqual(shares(60, [7], [59]), [(number, False, False) for number in numbers])

    def test_tuples_of_an_int_and_two_truths(self):
        for length, beat, starts in [(4, [0, 1], [0, 2]), (60, [0, 1, 2], [3, 9])]:
            told = shares(length, beat, starts)
            self.assertIs(type(told), list)
            for row in told:
                self.assertIs(type(row), tuple)
                self.assertEqual([type(value) for value in row], [int, bool, bool])

    def test_told_otherwise(self):
        chance = Random(14)
        asked = [(6, beat, starts) for beat in all_beats(6) for starts in all_beats(6)] + PARTNERS
        for length in range(7, 61):
            asked.append((length, sorted(chance.sample(range(length), 6)), sorted(chance.sample(range(length), 4))))
        for length, beat, starts in asked:
            rows = [(d, vanishes(beat, d), vanishes(starts, d)) for d in divisors_above_one(length)]
            self.assertEqual(shares(length, beat, starts), rows)

    def test_partner_just_where_the_parts_are_shared_out(self):
        for length in range(1, 8):
            for beat in all_beats(length):
                for starts in all_beats(length):
                    told = fills_by_shares(length, beat, starts)
                    self.assertIs(told, is_partner(length, beat, starts), (length, beat, starts))

    def test_partners_of_longer_wheels(self):
        for length, beat, starts in PARTNERS:
            self.assertIs(fills_by_shares(length, beat, starts), True)

    def test_of_each_prime_power_just_one(self):
        for length, beat, starts in PARTNERS:
            powers = prime_powers(length)
            for number, one, other in shares(length, beat, starts):
                self.assertTrue(one or other)
                if number in powers:
                    self.assertIsNot(one, other)

    def test_by_name(self):
        self.assertEqual(shares(length=2, beat=[0, 1], starts=[1]), [(2, True, False)])


class PrimePowers(unittest.TestCase):
    def test_some(self):
        self.assertEqual(prime_powers(6), [2, 3])
        self.assertEqual(prime_powers(12), [2, 3, 4])
        self.assertEqual(prime_powers(32), [2, 4, 8, 16, 32])
        self.assertEqual(prime_powers(36), [2, 3, 4, 9])
        self.assertEqual(prime_powers(49), [7, 49])
        self.assertEqual(prime_powers(54), [2, 3, 9, 27])
        self.assertEqual(prime_powers(59), [59])
        self.assertEqual(prime_powers(60), [2, 3, 4, 5])

    def test_no_prime_power(self):
        self.assertEqual(prime_powers(1), [])

    def test_each_length(self):
        powers = sorted(prime ** times for prime in PRIMES for times in range(1, 6))
        for length in range(1, 61):
            self.assertEqual(prime_powers(length), [power for power in powers if length % power == 0])

    def test_no_wheel(self):
        for length in [0, -1, -2, -60, 61, 64, 120, BIG, -BIG]:
            self.assertIs(refusal(prime_powers, length), NoWheel)

    def test_by_name(self):
        self.assertEqual(prime_powers(length=8), [2, 4, 8])


if __name__ == "__main__":
    unittest.main()
