"""[17], [18] and [19]: a partner sought by cases, and the papers that bar one."""

import unittest
from itertools import islice
from random import Random
from unittest.mock import patch

from canonwheel.beats import beat_counts
from canonwheel.cases import sought_partner
from canonwheel.errors import NoBeat, NoWheel, TooMany
from helpers import all_beats, cases_in_order, divisors_above_one, fall, fills, refusal, vanishes

COUNT = [
    (2, [0, 1], False),
    (3, [0, 1], True),
    (4, [0, 1, 2], True),
    (5, [1, 3], True),
    (8, [0, 2, 4], True),
    (12, [0, 1, 2, 3, 4], True),
    (59, [0, 30], True),
    (60, list(range(0, 56, 8)), True),
    (60, list(range(59)), True),
    (60, list(range(60)), False),
]
# The cases of the last ones are more than 2000; none of them is looked at.
PARTS = [
    (6, [0, 2]),
    (12, [0, 4]),
    (12, [0, 1, 3]),
    (18, [1, 2, 3, 4, 6, 7, 8, 9, 17]),
    (60, [0, 1, 2, 4]),
    (60, [0, 1, 3]),
    (52, [11, 19]),
    (57, [16, 34, 43]),
]
STARTS = [
    (1, [0], [0]),
    (7, [3], [0, 1, 2, 3, 4, 5, 6]),
    (7, [0, 1, 2, 3, 4, 5, 6], [0]),
    (8, [0, 1], [0, 2, 4, 6]),
    (8, [1, 2], [0, 2, 4, 6]),
    (8, [0, 4], [0, 1, 2, 3]),
    (8, [1, 5], [0, 1, 2, 7]),
    (8, [4, 7], [0, 2, 4, 6]),
    (8, [0, 3, 4, 7], [0, 6]),
    (12, [0, 1, 5], [0, 3, 6, 9]),
    (12, [0, 6], [0, 1, 2, 3, 4, 5]),
    (60, [59], list(range(60))),
    (60, [0, 30], list(range(30))),
    (60, list(range(60)), [0]),
    (60, [0, 1, 2, 30, 31, 32], [0, 3, 6, 9, 12, 15, 18, 21, 24, 27]),
]
ROWS = [
    (12, [0, 1, 2, 3, 5, 7], [
        (4, [("twice", 5), ("twice", 3), ("twice", 2), ("twice", 1), ("twice", 0), ("twice", 0)]),
    ]),
    (18, [0, 7, 11, 12, 16, 17], [
        (1, [("twice", 0), ("twice", 11), ("twice", 7), ("twice", 0), ("row", 1), ("twice", 0)]),
        (4, [("twice", 2), ("twice", 14), ("twice", 0), ("twice", 3), ("twice", 0), ("twice", 3)]),
    ]),
    (18, [2, 3, 7, 8, 15, 16], [
        (0, [("row", 1), ("row", 2), ("twice", 8), ("twice", 7), ("row", 3), ("row", 4)]),
        (4, [("twice", 0), ("twice", 3), ("twice", 0), ("twice", 3), ("twice", 5), ("twice", 3)]),
        (1, [("twice", 2), ("twice", 0), ("twice", 2), ("twice", 0), ("twice", 2), ("twice", 0)]),
        (4, [("twice", 0), ("twice", 3), ("twice", 0), ("twice", 3), ("twice", 5), ("twice", 3)]),
        (1, [("twice", 2), ("twice", 0), ("twice", 2), ("twice", 0), ("twice", 2), ("twice", 0)]),
    ]),
    (24, [4, 7, 9, 11, 14, 21], [
        (0, [("twice", 7), ("twice", 4), ("row", 1), ("row", 3), ("twice", 7), ("twice", 7)]),
        (1, [("twice", 4), ("twice", 5), ("row", 2), ("twice", 4), ("twice", 22), ("twice", 11)]),
        (8, [("twice", 1), ("twice", 5), ("twice", 3), ("twice", 1), ("twice", 1), ("twice", 1)]),
        (1, [("twice", 4), ("twice", 3), ("twice", 3), ("twice", 4), ("twice", 20), ("twice", 11)]),
    ]),
]
# Of these the paper is read row by row, not written out here.
BARRED = [
    (12, [0, 1, 2, 3, 7, 8], 1),
    (18, [0, 1, 2, 3, 7, 14], 2),
    (30, [8, 9, 13, 16, 26, 27], 4),
    (30, [0, 1, 6, 9, 10, 13, 14, 17, 18, 27], 3),
    (36, [0, 6, 12, 22, 28, 34], 35),
    (36, [5, 7, 10, 15, 16, 17, 18, 20, 21, 23, 28, 30], 2),
    (42, [4, 10, 15, 30, 35, 41], 316),
    (60, [2, 6, 15, 19, 28, 32, 41, 45, 49, 58], 987),
    (60, [0, 10, 19, 29, 41, 48], 1993),
    (60, [3, 7, 18, 29, 41, 52], 1994),
]

# The number of the first case that fills is 2000, and 2001.
LAST_FILLS = [
    (42, [8, 12, 31]), (45, [6, 18, 25, 32, 44]), (56, [13, 25, 35, 47]), (57, [16, 27, 41]), (60, [0, 22, 41]),
]
NEXT_FILLS = [
    (51, [0, 29, 43]), (56, [19, 33, 36, 50]), (57, [33, 40, 47]), (60, [15, 25, 47]), (60, [13, 16, 30, 59]),
]
# No case fills, and there are 2000 in all, and 2001. The first rule fails for each.
JUST_ENOUGH = [
    (48, [6, 22, 31]), (48, [1, 16, 24, 39]), (54, [4, 18, 24, 32, 44, 52]), (55, [2, 14, 18, 41, 53]),
    (57, [12, 25, 40]), (60, [8, 33, 50]),
]
ONE_MORE = [
    (51, [0, 27, 35]), (52, [11, 19]), (54, [2, 20, 42]), (56, [6, 17, 28, 54]), (57, [16, 34, 43]),
    (60, [0, 22, 38, 50]),
]


def first_rule_holds(length, beat):
    product = 1
    for power in divisors_above_one(length):
        primes = [prime for prime in divisors_above_one(power) if len(divisors_above_one(prime)) == 1]
        if len(primes) == 1 and vanishes(beat, power):
            product *= primes[0]
    return product == len(beat)


def built_beats():
    """Beats of longer wheels that have a partner: each place goes on by some laps, so long as the beat has places."""
    chance = Random(17)
    asked = []
    for length in range(13, 61):
        for size in [number for number in range(1, length + 1) if length % number == 0]:
            for laps in {1, min(2, length // size), length // size}:
                asked.append((length, sorted(place + size * chance.randrange(laps) for place in range(size))))
    return asked


class Papers(unittest.TestCase):
    def end_of_rows(self, length, beat, rows, number, starts):
        """Reads the row of a case, and all rows that come of it; tells the number of the row behind them."""
        filled = fall(length, beat, starts)
        self.assertEqual(len(filled), len(beat) * len(starts))
        self.assertEqual([type(rows[number]), len(rows[number])], [tuple, 2])
        least, answers = rows[number]
        self.assertEqual(least, min(set(range(length)) - filled))
        self.assertEqual([type(least), type(answers), len(answers)], [int, list, len(beat)])
        after = number + 1
        for place, answer in zip(beat, answers):
            start = (least - place) % length
            twice = filled & fall(length, beat, [start])
            if twice:
                self.assertEqual(answer, ("twice", min(twice)))
            else:
                self.assertEqual(answer, ("row", after))
                after = self.end_of_rows(length, beat, rows, after, [*starts, start])
            self.assertEqual([type(answer), type(answer[1])], [tuple, int])
        return after

    def check_paper(self, length, beat, told):
        self.assertEqual([type(told), len(told), told[0]], [tuple, 2, "barred"])
        self.assertIs(type(told[1]), list)
        self.assertEqual(self.end_of_rows(length, beat, told[1], 0, [0]), len(told[1]))

    def test_written_out(self):
        for length, beat, rows in ROWS:
            self.assertEqual(sought_partner(length, beat), ("barred", rows))
            self.check_paper(length, beat, ("barred", rows))

    def test_read_row_by_row(self):
        for length, beat, size in BARRED:
            told = sought_partner(length, beat)
            self.assertEqual(len(told[1]), size)
            self.check_paper(length, beat, told)

    def test_of_turned_beats(self):
        for length, beat, size in BARRED[:6]:
            for by in range(length):
                moved = sorted(fall(length, beat, [by]))
                self.check_paper(length, moved, sought_partner(length, moved))

    def test_of_all_that_keep_the_first_rule_and_have_none(self):
        read = 0
        for beat in all_beats(12):
            if len(beat) == 6:
                told = sought_partner(12, beat)
                if told[0] == "barred" and told[1] != "parts":
                    self.check_paper(12, beat, told)
                    read += 1
        self.assertGreater(read, 40)

    def test_of_chosen_ones(self):
        chance = Random(18)
        read = 0
        while read < 40:
            length = chance.choice([18, 24, 30, 36])
            beat = sorted(chance.sample(range(length), 6))
            if first_rule_holds(length, beat) and not any(fills(length, beat, case)
                                                          for case in cases_in_order(length, beat)):
                self.check_paper(length, beat, sought_partner(length, beat))
                read += 1


class SoughtPartner(unittest.TestCase):
    def plain_answer(self, length, beat):
        """What is to be told, but for the rows of a paper."""
        if length % len(beat) != 0:
            return ("barred", "count")
        if not first_rule_holds(length, beat):
            return ("barred", "parts")
        for starts in cases_in_order(length, beat):
            if fills(length, beat, starts):
                return ("starts", sorted(starts))
        return ("barred", None)

    def check(self, length, beat):
        told = sought_partner(length, beat)
        self.assertEqual([type(told), len(told)], [tuple, 2])
        asked = self.plain_answer(length, beat)
        if asked[1] is None:
            self.assertEqual((told[0], type(told[1])), ("barred", list), (length, beat))
            self.assertEqual(len(told[1]), len(list(cases_in_order(length, beat))), (length, beat))
        else:
            self.assertEqual(told, asked, (length, beat))
        return told[0]

    def test_barred_by_the_count(self):
        for length, beat, barred in COUNT:
            self.assertEqual(sought_partner(length, beat) == ("barred", "count"), barred, (length, beat))

    def test_count_bars_just_where_it_does_not_divide(self):
        for length in range(1, 61):
            for size in range(1, length + 1):
                told = sought_partner(length, list(range(size)))
                if length % size != 0:
                    self.assertEqual(told, ("barred", "count"))
                else:
                    self.assertEqual(told, ("starts", list(range(0, length, size))))

    def test_barred_by_the_parts(self):
        for length, beat in PARTS + JUST_ENOUGH + ONE_MORE:
            self.assertEqual(sought_partner(length, beat), ("barred", "parts"), (length, beat))

    def test_starts(self):
        for length, beat, starts in STARTS:
            told = sought_partner(length, beat)
            self.assertEqual(told, ("starts", starts))
            self.assertEqual([type(told), type(told[1])], [tuple, list])
            self.assertEqual(beat_counts(length, beat, told[1]), [1] * length)

    def test_the_first_case_that_fills_is_not_always_the_least(self):
        self.assertEqual(sought_partner(12, [1, 7]), ("starts", [0, 1, 2, 3, 4, 11]))
        self.assertEqual(sought_partner(6, [2, 5]), ("starts", [0, 4, 5]))

    def test_all_beats_of_short_wheels(self):
        for length in range(1, 11):
            for beat in all_beats(length):
                self.check(length, beat)

    def test_beats_of_a_wheel_of_twelve(self):
        told = [self.check(12, beat) for beat in all_beats(12) if len(beat) in (2, 3, 4, 5, 6, 12)]
        self.assertGreater(told.count("starts"), 100)

    def test_beats_of_longer_wheels(self):
        filled = 0
        for length, beat in built_beats():
            cases = list(islice(cases_in_order(length, beat), 2000))
            if any(fills(length, beat, starts) for starts in cases):
                self.check(length, beat)
                filled += 1
                starts = sought_partner(length, beat)[1]
                self.assertEqual(starts[0], 0)
                self.assertEqual(beat_counts(length, beat, starts), [1] * length)
            else:
                self.assertIs(refusal(sought_partner, length, beat), TooMany, (length, beat))
        self.assertGreater(filled, 300)

    def test_refusals_come_ahead(self):
        for beat in [[], [0, 0], [1, 0], [-1], [12], [0, 4, 4]]:
            self.assertIs(refusal(sought_partner, 12, beat), NoBeat)
            self.assertIs(refusal(sought_partner, 61, beat), NoWheel)
        self.assertIs(refusal(sought_partner, 0, [0]), NoWheel)

    def test_by_name(self):
        self.assertEqual(sought_partner(length=4, beat=[0, 1]), ("starts", [0, 2]))


class BoundOfCases(unittest.TestCase):
    def test_the_tables(self):
        for length, beat in LAST_FILLS:
            cases = list(islice(cases_in_order(length, beat), 2000))
            self.assertEqual([fills(length, beat, starts) for starts in cases], [False] * 1999 + [True])
        for length, beat in NEXT_FILLS:
            cases = list(islice(cases_in_order(length, beat), 2001))
            self.assertEqual([fills(length, beat, starts) for starts in cases], [False] * 2000 + [True])
        for size, table in [(2000, JUST_ENOUGH), (2001, ONE_MORE)]:
            for length, beat in table:
                cases = list(islice(cases_in_order(length, beat), 2002))
                self.assertEqual(len(cases), size)
                self.assertFalse(any(fills(length, beat, starts) for starts in cases))

    def test_the_last_one_fills(self):
        for length, beat in LAST_FILLS:
            starts = list(islice(cases_in_order(length, beat), 2000))[-1]
            self.assertEqual(sought_partner(length, beat), ("starts", sorted(starts)))
            self.assertEqual(beat_counts(length, beat, sorted(starts)), [1] * length)

    def test_the_next_one_would_fill(self):
        for length, beat in NEXT_FILLS:
            self.assertIs(refusal(sought_partner, length, beat), TooMany, (length, beat))

    def test_papers_near_the_bound(self):
        self.assertEqual(len(sought_partner(60, [3, 7, 18, 29, 41, 52])[1]), 1994)
        self.assertEqual(len(list(islice(cases_in_order(60, [9, 18, 31, 37, 50, 56]), 2003))), 2002)
        self.assertIs(refusal(sought_partner, 60, [9, 18, 31, 37, 50, 56]), TooMany)

    # No beat that keeps the first rule is known to have just so many cases and no partner, so the rule is set aside.
    def test_papers_at_the_bound(self):
        with patch("canonwheel.cases.first_rule", lambda length, beat: True):
            for length, beat in JUST_ENOUGH:
                told = sought_partner(length, beat)
                self.assertEqual((told[0], len(told[1])), ("barred", 2000))
            for length, beat in ONE_MORE:
                self.assertIs(refusal(sought_partner, length, beat), TooMany, (length, beat))


if __name__ == "__main__":
    unittest.main()
