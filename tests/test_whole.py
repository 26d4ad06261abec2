"""[1], [2] and [3]: what holds for every function, and for partners."""

import unittest
from itertools import combinations
from math import gcd

from canonwheel.beats import beat_counts, is_partner, made_beat
from canonwheel.errors import WheelError
from canonwheel.turns import first_turn, multiplied, own_turn, repeated, spread, turned

BIG = 10 ** 29 + 7

# Each call with its arguments; the lists among them are handed in anew for each asking.
CALLS = [
    (made_beat, 8, [9, 3, -8]),
    (made_beat, 8, [0, 1, 3]),
    (beat_counts, 8, [0, 1, 3], [0, 4]),
    (is_partner, 8, [0, 1], [0, 2, 4, 6]),
    (turned, 8, [0, 1, 3]),
    (turned, 8, [0, 1, 3], 0),
    (turned, 8, [0, 1, 3], -BIG),
    (multiplied, 8, [0, 1, 3], 1),
    (multiplied, 8, [0, 1, 3], 5),
    (repeated, 8, [0, 1, 3]),
    (repeated, 8, [0, 1, 3], 1),
    (spread, 8, [0, 1, 3]),
    (spread, 8, [0, 1, 3], 1),
    (own_turn, 8, [0, 2, 4, 6]),
    (first_turn, 8, [0, 1, 3]),
    (first_turn, 8, [1, 2, 4]),
]
REFUSED = [
    (made_beat, 8, [9, 1]),
    (made_beat, 61, [3, 2]),
    (beat_counts, 8, [0, 1], [3, 2]),
    (turned, 8, [3, 2, 3]),
    (multiplied, 8, [0, 4], 2),
    (repeated, 8, [0, 4], 9),
    (spread, 8, [0, 4], 0),
]


def copied(arguments):
    return [list(argument) if isinstance(argument, list) else argument for argument in arguments]


def partners(length, size):
    """All pairs of a beat of so many places and a partner of it, 0 among both."""
    pairs = []
    for rest in combinations(range(1, length), size - 1):
        for others in combinations(range(1, length), length // size - 1):
            beat = [0] + list(rest)
            starts = [0] + list(others)
            if len({(place + start) % length for place in beat for start in starts}) == length:
                pairs.append((beat, starts))
    return pairs


def small_partners():
    found = []
    for length in range(1, 13):
        for size in [number for number in range(1, length + 1) if length % number == 0]:
            found += [(length, beat, starts) for beat, starts in partners(length, size)]
    return found


class ListsAreTheAskersOwn(unittest.TestCase):
    def test_lists_handed_in_stay(self):
        for call, *arguments in CALLS:
            handed = copied(arguments)
            call(*handed)
            with self.subTest(call=call, arguments=arguments):
                self.assertEqual(handed, arguments)

    def test_lists_handed_in_stay_where_refused(self):
        for call, *arguments in REFUSED:
            handed = copied(arguments)
            with self.subTest(call=call, arguments=arguments):
                with self.assertRaises(WheelError):
                    call(*handed)
                self.assertEqual(handed, arguments)

    def test_told_lists_may_be_changed(self):
        for call, *arguments in CALLS:
            handed = copied(arguments)
            told = call(*handed)
            if not isinstance(told, list):
                continue
            kept = list(told)
            told[0] = 77
            told.append(99)
            with self.subTest(call=call, arguments=arguments):
                self.assertEqual(handed, arguments)
                self.assertEqual(call(*handed), kept)

    def test_handed_lists_may_be_changed(self):
        for call, *arguments in CALLS:
            handed = copied(arguments)
            told = call(*handed)
            kept = list(told) if isinstance(told, list) else told
            for argument in handed:
                if isinstance(argument, list):
                    argument.reverse()
                    argument.append(5)
            with self.subTest(call=call, arguments=arguments):
                self.assertEqual(told, kept)
                self.assertEqual(call(*copied(arguments)), kept)

    def test_one_list_as_beat_and_starts(self):
        both = [0, 1]
        self.assertEqual(beat_counts(4, both, both), [1, 2, 1, 0])
        self.assertIs(is_partner(1, [0], [0]), True)
        self.assertEqual(both, [0, 1])


class Kinds(unittest.TestCase):
    def test_lists_of_ints_are_told(self):
        for call, *arguments in CALLS:
            if call in (is_partner, own_turn):
                continue
            told = call(*copied(arguments))
            self.assertIs(type(told), list)
            self.assertEqual({type(number) for number in told}, {int})

    def test_an_int_and_a_truth_are_told(self):
        self.assertIs(type(own_turn(8, [0, 4])), int)
        self.assertIs(type(is_partner(8, [0, 4], [0])), bool)


class PartnersAreKept(unittest.TestCase):
    def setUp(self):
        self.found = small_partners()
        self.found.append((60, [0, 1, 2, 30, 31, 32], list(range(0, 30, 3))))
        self.found.append((60, [0, 12, 24, 36, 48], list(range(12))))

    def test_they_fill_the_wheel(self):
        for length, beat, starts in self.found:
            self.assertEqual(beat_counts(length, beat, starts), [1] * length)
            self.assertIs(is_partner(length, beat, starts), True)

    def test_when_turned(self):
        for length, beat, starts in self.found:
            for by in [1, -1, length // 2, BIG]:
                self.assertIs(is_partner(length, turned(length, beat, by), starts), True)
                self.assertIs(is_partner(length, beat, turned(length, starts, by)), True)

    def test_when_multiplied_by_what_shares_no_divisor_with_its_size(self):
        for length, beat, starts in self.found:
            for by in list(range(-length, length + 1)) + [BIG, -BIG]:
                if gcd(by, len(beat)) == 1:
                    self.assertIs(is_partner(length, multiplied(length, beat, by), starts), True)

    def test_when_repeated(self):
        for length, beat, starts in self.found:
            for times in range(1, min(4, 60 // length) + 1):
                self.assertIs(is_partner(length * times, repeated(length, beat, times), starts), True)

    def test_when_spread(self):
        for length, beat, starts in self.found:
            for times in range(1, min(4, 60 // length) + 1):
                between = [start + step for start in spread(length, starts, times) for step in range(times)]
                self.assertIs(is_partner(length * times, spread(length, beat, times), between), True)


if __name__ == "__main__":
    unittest.main()
