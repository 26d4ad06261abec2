"""[9] and [20]: all partners of a beat, and their kinds."""

import unittest
from itertools import combinations, islice
from random import Random

from canonwheel.beats import beat_counts
from canonwheel.cases import sought_partner
from canonwheel.errors import NoBeat, NoWheel, TooMany
from canonwheel.partners import all_partners, partner_kinds
from canonwheel.turns import first_turn, own_turn
from helpers import all_beats, cases_in_order, fall, fills, refusal, small_partners

ALL = [
    (1, [0], [[0]]),
    (3, [2], [[0, 1, 2]]),
    (4, [0, 1, 2, 3], [[0]]),
    (4, [0, 1], [[0, 2]]),
    (4, [0, 2], [[0, 1], [0, 3]]),
    (4, [1, 3], [[0, 1], [0, 3]]),
    (6, [0, 3], [[0, 1, 2], [0, 1, 5], [0, 2, 4], [0, 4, 5]]),
    (8, [0, 4], [[0, 1, 2, 3], [0, 1, 2, 7], [0, 1, 3, 6], [0, 1, 6, 7],
                 [0, 2, 3, 5], [0, 2, 5, 7], [0, 3, 5, 6], [0, 5, 6, 7]]),
    (8, [0, 1, 4, 5], [[0, 2], [0, 6]]),
    (9, [0, 1, 5], [[0, 3, 6]]),
    (60, [7], [list(range(60))]),
    (60, list(range(60)), [[0]]),
    (60, list(range(30)), [[0, 30]]),
]
KINDS = [
    (1, [0], [[0]]),
    (4, [0, 1], [[0, 2]]),
    (4, [0, 2], [[0, 1]]),
    (6, [0, 3], [[0, 1, 2], [0, 2, 4]]),
    (8, [0, 4], [[0, 1, 2, 3], [0, 1, 3, 6]]),
    (8, [0, 1, 4, 5], [[0, 2]]),
    (9, [0, 1, 5], [[0, 3, 6]]),
    (60, [7], [list(range(60))]),
    (60, list(range(60)), [[0]]),
]
# How many places the beat has does not divide the length; more than 2000 cases are there.
COUNT_BARS = [(55, [0, 20]), (58, [0, 9, 30]), (59, [0, 8]), (59, [0, 20, 45])]
# The first rule fails, and no case fills: with how many cases there are.
NONE = [
    (6, [0, 2], 3),
    (12, [0, 4], None),
    (12, [0, 1, 3], None),
    (60, [0, 1, 2, 4], None),
    (48, [6, 22, 31], 2000),
    (48, [1, 16, 24, 39], 2000),
    (54, [4, 18, 24, 32, 44, 52], 2000),
    (57, [12, 25, 40], 2000),
    (60, [8, 33, 50], 2000),
]
TOO_MANY_NONE = [(51, [0, 27, 35]), (52, [11, 19]), (57, [16, 34, 43]), (60, [0, 22, 38, 50])]
# There are 2000 cases in all, some that fill among them, and 2001.
JUST_ENOUGH = [
    (44, [6, 13, 20, 35], 1), (48, [5, 12, 25], 1), (52, [7, 17, 20, 30], 1), (55, [4, 15, 36, 42, 53], 1),
    (56, [2, 9, 31, 48], 1), (60, [8, 45, 55, 58], 16), (60, [6, 9, 32, 43, 55], 1),
]
ONE_MORE = [
    (48, [1, 30, 38], 1), (48, [4, 27, 35, 44], 8), (52, [3, 13, 36, 46], 1), (55, [3, 17, 30, 31, 44], 1),
    (56, [1, 8, 15, 42], 1), (60, [13, 38, 47, 56], 1), (60, [0, 14, 16, 42, 44, 58], 6),
]


def tried_partners(length, beat):
    """All partners that have 0, found by trying every set of starts."""
    if length % len(beat) != 0:
        return []
    rests = combinations(range(1, length), length // len(beat) - 1)
    return sorted([0, *rest] for rest in rests if fills(length, beat, [0, *rest]))


def partners_from_above(length, beat, starts=(0,)):
    """All partners that have 0, the greatest open place being filled first."""
    filled = fall(length, beat, starts)
    if len(filled) == length:
        return [sorted(starts)]
    found = []
    greatest = max(set(range(length)) - filled)
    for place in beat:
        start = (greatest - place) % length
        if not filled & fall(length, beat, [start]):
            found += partners_from_above(length, beat, [*starts, start])
    return sorted(found)


def kinds_of(length, found):
    return sorted({min(tuple(sorted(fall(length, starts, [by]))) for by in range(length)) for starts in found})


class AllPartners(unittest.TestCase):
    def check(self, length, beat, found):
        told = all_partners(length, beat)
        self.assertEqual(told, found, (length, beat))
        kinds = partner_kinds(length, beat)
        self.assertEqual(kinds, [list(kind) for kind in kinds_of(length, found)], (length, beat))
        for value in [told, *told, kinds, *kinds]:
            self.assertIs(type(value), list)

    def test_some(self):
        for length, beat, found in ALL:
            self.assertEqual(all_partners(length, beat), found)
            self.check(length, beat, found)

    def test_all_beats_of_short_wheels(self):
        for length in range(1, 10):
            for beat in all_beats(length):
                self.check(length, beat, tried_partners(length, beat))

    def test_beats_that_have_one_on_wheels_up_to_twelve(self):
        found = {}
        for length, beat, starts in small_partners():
            found.setdefault((length, tuple(beat)), []).append(starts)
        for (length, beat), starts in found.items():
            self.check(length, list(beat), sorted(starts))

    def test_beats_of_longer_wheels(self):
        chance = Random(20)
        looked_at = 0
        for length in range(13, 61):
            for size in [number for number in range(2, length) if length % number == 0]:
                laps = length // size
                beat = sorted(place + size * chance.randrange(laps) for place in range(size))
                if len(list(islice(cases_in_order(length, beat), 2001))) == 2001:
                    self.assertIs(refusal(all_partners, length, beat), TooMany)
                    self.assertIs(refusal(partner_kinds, length, beat), TooMany)
                else:
                    self.check(length, beat, partners_from_above(length, beat))
                    looked_at += 1
        self.assertGreater(looked_at, 100)

    def test_many(self):
        found = all_partners(20, [0, 10])
        self.assertEqual(len(found), 512)
        self.check(20, [0, 10], partners_from_above(20, [0, 10]))

    def test_each_fills_the_wheel(self):
        for length, beat, number in JUST_ENOUGH:
            for starts in all_partners(length, beat):
                self.assertEqual(starts[0], 0)
                self.assertEqual(beat_counts(length, beat, starts), [1] * length)

    def test_the_one_that_is_sought_is_among_them(self):
        for length, beat, found in ALL:
            self.assertIn(sought_partner(length, beat)[1], all_partners(length, beat))

    def test_of_turned_beats_the_same(self):
        for length, beat, found in ALL[:-3]:
            for by in range(length):
                self.check(length, sorted(fall(length, beat, [by])), found)

    def test_none_where_the_count_bars(self):
        for length, beat in COUNT_BARS:
            self.assertEqual(len(list(islice(cases_in_order(length, beat), 2001))), 2001)
            self.assertEqual(all_partners(length, beat), [])
            self.assertEqual(partner_kinds(length, beat), [])

    def test_none_where_the_first_rule_fails(self):
        for length, beat, number in NONE:
            self.assertEqual(sought_partner(length, beat), ("barred", "parts"))
            if number is not None:
                self.assertEqual(len(list(islice(cases_in_order(length, beat), 2001))), number)
            self.assertEqual(all_partners(length, beat), [], (length, beat))
            self.assertEqual(partner_kinds(length, beat), [], (length, beat))

    def test_too_many_where_the_first_rule_fails(self):
        for length, beat in TOO_MANY_NONE:
            self.assertEqual(sought_partner(length, beat), ("barred", "parts"))
            self.assertIs(refusal(all_partners, length, beat), TooMany)
            self.assertIs(refusal(partner_kinds, length, beat), TooMany)

    def test_none_where_both_rules_do_not_hold(self):
        for length, beat in [(12, [0, 1, 2, 3, 5, 7]), (60, [3, 7, 18, 29, 41, 52])]:
            self.assertEqual(all_partners(length, beat), [])
            self.assertEqual(partner_kinds(length, beat), [])

    def test_refusals_come_ahead(self):
        for call in (all_partners, partner_kinds):
            for beat in [[], [0, 0], [1, 0], [-1], [12], [0, 4, 4]]:
                self.assertIs(refusal(call, 12, beat), NoBeat)
                self.assertIs(refusal(call, 61, beat), NoWheel)
            self.assertIs(refusal(call, 0, [0]), NoWheel)

    def test_by_name(self):
        self.assertEqual(all_partners(length=4, beat=[0, 2]), [[0, 1], [0, 3]])
        self.assertEqual(partner_kinds(length=4, beat=[0, 2]), [[0, 1]])


class Kinds(unittest.TestCase):
    def test_some(self):
        for length, beat, kinds in KINDS:
            self.assertEqual(partner_kinds(length, beat), kinds)

    def test_each_is_a_first_turn(self):
        for length, beat in [(8, [0, 4]), (12, [0, 6]), (20, [0, 10]), (18, [0, 9]), (60, [8, 45, 55, 58])]:
            kinds = partner_kinds(length, beat)
            self.assertEqual(kinds, sorted(kinds))
            for kind in kinds:
                self.assertEqual(first_turn(length, kind), kind)
                self.assertEqual(kinds.count(kind), 1)

    # Of the turns of a kind, as many as its own turn tells, a share has 0: its places over the length.
    def test_they_account_for_all_partners(self):
        for length, beat in [(8, [0, 4]), (12, [0, 6]), (20, [0, 10]), (18, [0, 9]), (60, [8, 45, 55, 58])]:
            kinds = partner_kinds(length, beat)
            with_nought = [own_turn(length, kind) * len(kind) // length for kind in kinds]
            self.assertEqual(sum(with_nought), len(all_partners(length, beat)))


class BoundOfCases(unittest.TestCase):
    def test_the_tables(self):
        for size, table in [(2000, JUST_ENOUGH), (2001, ONE_MORE)]:
            for length, beat, number in table:
                cases = list(islice(cases_in_order(length, beat), 2002))
                self.assertEqual(len(cases), size)
                self.assertEqual(sum(fills(length, beat, starts) for starts in cases), number)

    def test_just_enough(self):
        for length, beat, number in JUST_ENOUGH:
            found = sorted(sorted(case) for case in cases_in_order(length, beat) if fills(length, beat, case))
            self.assertEqual(all_partners(length, beat), found)
            self.assertEqual(len(found), number)
            self.assertEqual(partner_kinds(length, beat), [list(kind) for kind in kinds_of(length, found)])

    def test_one_more(self):
        for length, beat, number in ONE_MORE:
            self.assertIs(refusal(all_partners, length, beat), TooMany, (length, beat))
            self.assertIs(refusal(partner_kinds, length, beat), TooMany, (length, beat))

    def test_many_more(self):
        self.assertIs(refusal(all_partners, 60, [0, 30]), TooMany)
        self.assertIs(refusal(partner_kinds, 60, [0, 30]), TooMany)
        self.assertEqual(sought_partner(60, [0, 30]), ("starts", list(range(30))))


if __name__ == "__main__":
    unittest.main()
