"""[15] and [16]: the two rules, and partners that are made."""

import unittest
from itertools import combinations, product
from math import prod
from random import Random

from canonwheel.beats import beat_counts
from canonwheel.errors import NoBeat, NoRule, NoWheel
from canonwheel.parts import parts_had
from canonwheel.rules import first_rule, made_partner, second_rule
from canonwheel.turns import turned
from helpers import PRIMES, all_beats, refusal, small_partners, vanishes

# Of the last one the parts of all products of two are had, and that of the product of three alone is not.
FIRST_ALONE = [
    (12, [0, 1, 2, 3, 5, 7]),
    (12, [0, 1, 2, 3, 7, 8]),
    (18, [0, 1, 2, 3, 7, 14]),
    (20, [0, 1, 2, 3, 4, 5, 6, 7, 8, 14]),
    (36, [0, 6, 12, 22, 28, 34]),
    (60, [1, 3, 4, 6, 8, 9, 10, 11, 12, 13, 14, 15, 17, 18, 19, 20, 22, 23, 24, 25, 26, 27, 28, 29, 31, 36, 45, 47, 50,
          52]),
]
SECOND_ALONE = [
    (3, [0, 1]),
    (4, [0, 1, 2]),
    (6, [0, 2]),
    (12, [0, 4]),
    (12, [0, 1, 2, 3, 4]),
    (60, [0, 1, 2, 4]),
    (60, list(range(59))),
]
NEITHER = [
    (18, [1, 2, 3, 4, 6, 7, 8, 9, 12, 13, 14, 17]),
    (24, [0, 3, 5, 7, 11, 12, 13, 16, 17, 18, 20, 22]),
    (30, [3, 4, 7, 11, 12, 14, 15, 20, 22, 23, 27, 28]),
    (36, [4, 5, 11, 12, 15, 16, 25, 26, 29, 30, 33, 34]),
    (60, [3, 4, 5, 31, 32, 33, 40, 41, 42, 48, 53, 58]),
]
MADE = [
    (1, [0], [0]),
    (7, [3], [0, 1, 2, 3, 4, 5, 6]),
    (7, [0, 1, 2, 3, 4, 5, 6], [0]),
    (8, [0, 1], [0, 2, 4, 6]),
    (8, [3, 7], [0, 1, 2, 3]),
    (8, [0, 1, 4, 5], [0, 2]),
    (9, [0, 1, 5], [0, 3, 6]),
    (12, [0, 1], [0, 2, 4, 6, 8, 10]),
    (12, [0, 6], [0, 3, 4, 7, 8, 11]),
    (12, [0, 1, 2, 3], [0, 4, 8]),
    (12, [0, 2, 4], [0, 3, 6, 9]),
    (12, [0, 1, 4, 5, 8, 9], [0, 6]),
    (30, [0, 6, 12, 18, 24], [0, 5, 10, 15, 20, 25]),
    (36, [0, 10, 12, 22, 24, 34], [0, 4, 8, 9, 13, 17]),
    (60, [0, 1, 2, 30, 31, 32], [0, 3, 12, 15, 24, 27, 36, 39, 48, 51]),
    (60, [7], list(range(60))),
    (60, list(range(60)), [0]),
]


def powers_with_primes(length):
    pairs = [(prime ** times, prime) for prime in PRIMES for times in range(1, 6)]
    return [(power, prime) for power, prime in sorted(pairs) if length % power == 0]


def plain_rules(length, beat):
    had = [(power, prime) for power, prime in powers_with_primes(length) if vanishes(beat, power)]
    second = True
    for size in range(2, len(had) + 1):
        for choice in combinations(had, size):
            if len({prime for power, prime in choice}) == size:
                second = second and vanishes(beat, prod(power for power, prime in choice))
    return (prod(prime for power, prime in had) == len(beat), second)


def plain_partner(length, beat):
    rows = []
    for power, prime in powers_with_primes(length):
        if not vanishes(beat, power):
            others = max(number for number in range(1, length + 1) if length % number == 0 and number % prime != 0)
            rows.append([times * others * (power // prime) for times in range(prime)])
    return sorted(sum(choice) % length for choice in product(*rows))


def longer_beats():
    """Beats of the wheels from 13 to 60: built of steps, so that many keep the rules, and such with a place changed."""
    chance = Random(15)
    asked = []
    for length in range(13, 61):
        for step in [number for number in range(1, length + 1) if length % number == 0]:
            whole = list(range(0, length, step))
            short = list(range(step))
            moved = sorted(set(chance.sample(range(length), 1) + whole[1:]))
            asked += [(length, beat) for beat in (whole, short, moved)]
            # Each place goes on by its own number of laps of the step, and the beat keeps the partner [0, step, ..].
            laps = [place + step * chance.randrange(length // step) for place in short]
            asked.append((length, sorted(laps)))
    return asked


class Rules(unittest.TestCase):
    def rules(self, length, beat):
        told = (first_rule(length, beat), second_rule(length, beat))
        self.assertEqual([type(value) for value in told], [bool, bool])
        return told

    def test_both_hold(self):
        for length, beat, starts in MADE:
            self.assertEqual(self.rules(length, beat), (True, True), (length, beat))

    def test_first_alone(self):
        for length, beat in FIRST_ALONE:
            self.assertEqual(self.rules(length, beat), (True, False), (length, beat))

    def test_second_alone(self):
        for length, beat in SECOND_ALONE:
            self.assertEqual(self.rules(length, beat), (False, True), (length, beat))

    def test_neither(self):
        for length, beat in NEITHER:
            self.assertEqual(self.rules(length, beat), (False, False), (length, beat))

    def test_no_prime_power_had(self):
        self.assertEqual(parts_had(60, [0, 1, 2, 4]), [])
        self.assertEqual(self.rules(60, [0, 1, 2, 4]), (False, True))
        for length in range(1, 61):
            self.assertEqual(self.rules(length, [length - 1]), (True, True))

    def test_the_product_of_three_counts(self):
        length, beat = FIRST_ALONE[-1]
        self.assertEqual(parts_had(length, beat), [2, 3, 5, 6, 10, 15])
        self.assertIs(second_rule(length, beat), False)

    def test_powers_of_one_prime_are_not_chosen_together(self):
        self.assertEqual(parts_had(24, [0, 1, 2, 3]), [2, 4])
        self.assertIs(second_rule(24, [0, 1, 2, 3]), True)
        self.assertEqual(parts_had(27, list(range(9))), [3, 9])
        self.assertIs(second_rule(27, list(range(9))), True)

    def test_told_otherwise(self):
        asked = [(length, beat) for length in [4, 6, 8, 9, 10, 12] for beat in all_beats(length)] + longer_beats()
        for length, beat in asked:
            self.assertEqual(self.rules(length, beat), plain_rules(length, beat), (length, beat))

    def test_a_beat_that_has_a_partner_keeps_the_first(self):
        for length, beat, starts in small_partners():
            self.assertIs(first_rule(length, beat), True)
            self.assertIs(first_rule(length, starts), True)

    def test_kept_when_turned(self):
        for length, beat in FIRST_ALONE + SECOND_ALONE + NEITHER:
            rules = self.rules(length, beat)
            for by in [1, length // 2, -1]:
                self.assertEqual(self.rules(length, turned(length, beat, by)), rules)

    def test_by_name(self):
        self.assertIs(first_rule(length=4, beat=[0, 1]), True)
        self.assertIs(second_rule(length=4, beat=[0, 1]), True)


class MadePartner(unittest.TestCase):
    def check(self, length, beat):
        starts = made_partner(length, beat)
        self.assertEqual(starts, plain_partner(length, beat), (length, beat))
        self.assertEqual(beat_counts(length, beat, starts), [1] * length)

    def test_some(self):
        for length, beat, starts in MADE:
            self.assertEqual(made_partner(length, beat), starts)

    def test_they_fill_the_wheel(self):
        for length, beat, starts in MADE:
            self.check(length, beat)

    def test_made_for_each_beat_that_has_a_partner_on_a_short_wheel(self):
        for length, beat, starts in small_partners():
            self.check(length, beat)

    def test_made_just_where_both_rules_hold(self):
        asked = [(length, beat) for length in [6, 9, 10, 12] for beat in all_beats(length)] + longer_beats()
        made = 0
        for length, beat in asked:
            if plain_rules(length, beat) == (True, True):
                self.check(length, beat)
                made += 1
            else:
                self.assertIs(refusal(made_partner, length, beat), NoRule, (length, beat))
        self.assertGreater(made, 1000)
        self.assertLess(made, len(asked) - 1000)

    def test_turned_beats_have_the_same_one(self):
        for length, beat, starts in MADE:
            self.assertEqual(made_partner(length, turned(length, beat, 1)), starts)

    def test_no_rule(self):
        for length, beat in FIRST_ALONE + SECOND_ALONE + NEITHER:
            with self.subTest(length=length, beat=beat):
                self.assertIs(refusal(made_partner, length, beat), NoRule)

    def test_no_rule_comes_last(self):
        self.assertIs(refusal(made_partner, 12, [0, 4]), NoRule)
        for beat in [[4, 0], [0, 4, 4], [0, 12], [-4, 0], []]:
            self.assertIs(refusal(made_partner, 12, beat), NoBeat)
            for length in [0, -12, 61]:
                self.assertIs(refusal(made_partner, length, beat), NoWheel)
        self.assertIs(refusal(made_partner, 61, [0, 4]), NoWheel)

    def test_by_name(self):
        self.assertEqual(made_partner(length=4, beat=[0, 1]), [0, 2])


if __name__ == "__main__":
    unittest.main()
