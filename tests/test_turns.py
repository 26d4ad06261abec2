"""[6], [7] and [9]: beats turned, multiplied, repeated and spread; own and first turns."""

import unittest

from canonwheel.errors import NoBeat, NoWheel
from canonwheel.turns import first_turn, multiplied, own_turn, repeated, spread, turned
from helpers import BIG, all_beats


class Turned(unittest.TestCase):
    def test_by_nought(self):
        self.assertEqual(turned(8, [1, 3, 7], 0), [1, 3, 7])

    def test_by_one_where_nothing_is_told(self):
        self.assertEqual(turned(8, [0, 1, 7]), [0, 1, 2])
        self.assertEqual(turned(8, [0, 1, 7], 1), [0, 1, 2])
        self.assertEqual(turned(1, [0]), [0])

    def test_below_nought(self):
        self.assertEqual(turned(8, [0, 1, 7], -2), [5, 6, 7])
        self.assertEqual(turned(60, [0, 30], -61), [29, 59])

    def test_thirty_figures(self):
        self.assertEqual(turned(10, [0, 3, 5], 10 ** 29 + 7), [0, 2, 7])
        self.assertEqual(turned(10, [0, 3, 5], -(10 ** 29) - 7), [3, 6, 8])
        self.assertEqual(turned(60, [0, 59], 10 ** 30 - 1), [38, 39])

    def test_by_name(self):
        self.assertEqual(turned(length=8, beat=[0, 4], by=3), [3, 7])

    def test_told_sorted(self):
        for by in range(-9, 10):
            told = turned(8, [0, 2, 3, 7], by)
            self.assertEqual(told, sorted([(place + by) % 8 for place in [0, 2, 3, 7]]))


class Multiplied(unittest.TestCase):
    def test_by_one(self):
        self.assertEqual(multiplied(8, [1, 3, 7], 1), [1, 3, 7])

    def test_by_minus_one(self):
        self.assertEqual(multiplied(8, [0, 1, 3], -1), [0, 5, 7])

    def test_by_nought(self):
        self.assertEqual(multiplied(8, [5], 0), [0])
        with self.assertRaises(NoBeat):
            multiplied(8, [0, 5], 0)

    def test_by_numbers_that_keep_places_apart(self):
        self.assertEqual(multiplied(8, [0, 1, 2], 3), [0, 3, 6])
        self.assertEqual(multiplied(8, [0, 1, 2], 11), [0, 3, 6])
        self.assertEqual(multiplied(8, [0, 1, 2, 3], 2), [0, 2, 4, 6])
        self.assertEqual(multiplied(60, [1, 2, 59], 7), [7, 14, 53])

    def test_by_numbers_with_which_two_come_to_one_place(self):
        cases = [(8, [0, 4], 2), (8, [1, 3, 5], 4), (8, [0, 1], 8), (60, [0, 1, 20], 3), (2, [0, 1], 0)]
        for length, beat, by in cases:
            with self.subTest(length=length, beat=beat, by=by):
                with self.assertRaises(NoBeat):
                    multiplied(length, beat, by)

    def test_thirty_figures(self):
        self.assertEqual(multiplied(10, [0, 1, 2], 10 ** 29 + 7), [0, 4, 7])
        self.assertEqual(multiplied(10, [0, 1, 2], -(10 ** 29) - 7), [0, 3, 6])
        with self.assertRaises(NoBeat):
            multiplied(10, [0, 1], 10 ** 29)

    def test_each_beat_of_a_small_wheel(self):
        for beat in all_beats(6):
            for by in range(-7, 8):
                places = sorted([place * by % 6 for place in beat])
                if len(set(places)) == len(beat):
                    self.assertEqual(multiplied(6, beat, by), places)
                else:
                    with self.assertRaises(NoBeat):
                        multiplied(6, beat, by)


class RepeatedAndSpread(unittest.TestCase):
    def test_repeated(self):
        self.assertEqual(repeated(4, [0, 1], 3), [0, 1, 4, 5, 8, 9])
        self.assertEqual(repeated(5, [1, 4], 2), [1, 4, 6, 9])
        self.assertEqual(repeated(1, [0], 4), [0, 1, 2, 3])

    def test_spread(self):
        self.assertEqual(spread(4, [0, 1], 3), [0, 3])
        self.assertEqual(spread(5, [1, 4], 2), [2, 8])
        self.assertEqual(spread(1, [0], 4), [0])

    def test_once(self):
        self.assertEqual(repeated(5, [1, 4], 1), [1, 4])
        self.assertEqual(spread(5, [1, 4], 1), [1, 4])

    def test_twice_where_nothing_is_told(self):
        self.assertEqual(repeated(5, [0, 3]), [0, 3, 5, 8])
        self.assertEqual(spread(5, [0, 3]), [0, 6])
        self.assertEqual(repeated(30, [29]), [29, 59])
        self.assertEqual(spread(30, [29]), [58])
        for call in [repeated, spread]:
            with self.assertRaises(NoWheel):
                call(31, [0])

    def test_by_name(self):
        self.assertEqual(repeated(length=2, beat=[1], times=3), [1, 3, 5])
        self.assertEqual(spread(length=2, beat=[1], times=3), [3])

    def test_times_below_one(self):
        for call in [repeated, spread]:
            for times in [0, -1, -2, -60, -BIG]:
                with self.subTest(call=call, times=times):
                    with self.assertRaises(NoWheel):
                        call(4, [0, 1], times)

    def test_longer_wheel_of_sixty(self):
        for length, times in [(1, 60), (2, 30), (7, 8), (20, 3), (30, 2), (60, 1)]:
            last = length - 1
            with self.subTest(length=length, times=times):
                self.assertEqual(repeated(length, [last], times), list(range(last, length * times, length)))
                self.assertEqual(spread(length, [last], times), [last * times])

    def test_longer_wheel_of_more_than_sixty(self):
        for call in [repeated, spread]:
            for length, times in [(1, 61), (2, 31), (7, 9), (31, 2), (59, 2), (60, 2), (1, 10 ** 4)]:
                with self.subTest(call=call, length=length, times=times):
                    with self.assertRaises(NoWheel):
                        call(length, [0], times)

    def test_times_of_thirty_figures(self):
        for call in [repeated, spread]:
            # The lesser numbers come first: were they taken, the great ones would never come to an end.
            for times in [61, 10 ** 4, BIG, 10 ** 30 - 1]:
                for length in [1, 60]:
                    with self.assertRaises(NoWheel):
                        call(length, [0], times)

    def test_the_order_of_refusals(self):
        for call in [repeated, spread]:
            for times in [0, -1, 61, 10 ** 4]:
                for beat in [[], [0, 0], [1, 0], [-1], [4]]:
                    with self.assertRaises(NoBeat):
                        call(4, beat, times)
                    with self.assertRaises(NoWheel):
                        call(0, beat, times)
                    with self.assertRaises(NoWheel):
                        call(61, beat, times)


class OwnTurn(unittest.TestCase):
    def test_with_a_shorter_turn(self):
        self.assertEqual(own_turn(8, [1, 3, 5, 7]), 2)
        self.assertEqual(own_turn(8, [0, 1, 4, 5]), 4)
        self.assertEqual(own_turn(12, [0, 1, 4, 5, 8, 9]), 4)
        self.assertEqual(own_turn(60, [0, 20, 40]), 20)
        self.assertEqual(own_turn(60, list(range(60))), 1)
        self.assertEqual(own_turn(60, [7, 37]), 30)

    def test_without_one(self):
        self.assertEqual(own_turn(8, [0]), 8)
        self.assertEqual(own_turn(8, [0, 1, 4]), 8)
        self.assertEqual(own_turn(7, [1, 2, 4]), 7)
        self.assertEqual(own_turn(60, list(range(59))), 60)

    def test_length_one(self):
        self.assertEqual(own_turn(1, [0]), 1)

    def test_least_and_a_divisor(self):
        for length in range(1, 9):
            for beat in all_beats(length):
                own = own_turn(length, beat)
                self.assertEqual(length % own, 0)
                stays = [by for by in range(1, length + 1) if set(beat) == {(place + by) % length for place in beat}]
                self.assertEqual(own, stays[0])

    def test_repeated_keeps_it(self):
        for beat in all_beats(5):
            self.assertEqual(own_turn(15, repeated(5, beat, 3)), own_turn(5, beat))


class FirstTurn(unittest.TestCase):
    def test_some(self):
        self.assertEqual(first_turn(8, [1, 3, 4]), [0, 1, 6])
        self.assertEqual(first_turn(8, [1, 3, 5, 7]), [0, 2, 4, 6])
        self.assertEqual(first_turn(60, [59]), [0])
        self.assertEqual(first_turn(60, [0, 58, 59]), [0, 1, 2])
        self.assertEqual(first_turn(1, [0]), [0])

    def test_least_of_all_turns(self):
        for length in range(1, 9):
            for beat in all_beats(length):
                turns = [sorted([(place + by) % length for place in beat]) for by in range(length)]
                self.assertEqual(first_turn(length, beat), sorted(turns)[0])

    def test_both_alike_for_the_turned_beat(self):
        for length, beat in [(1, [0]), (8, [0, 1, 4, 5]), (8, [1, 3, 4]), (60, [3, 7, 33, 37]), (60, [0, 1, 59])]:
            for by in list(range(-length - 1, length + 2)) + [BIG, -BIG]:
                moved = turned(length, beat, by)
                self.assertEqual(own_turn(length, moved), own_turn(length, beat))
                self.assertEqual(first_turn(length, moved), first_turn(length, beat))


if __name__ == "__main__":
    unittest.main()
