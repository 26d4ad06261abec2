"""[26] and [27]: beats on the torus, and how they are laid on a wheel and up again."""

import unittest
from itertools import combinations
from math import gcd
from random import Random

from canonwheel.beats import is_partner
from canonwheel.errors import NoBeat, NoPair, NoWheel
from canonwheel.tori import laid_flat, laid_up, torus_partner
from helpers import BIG, refusal

ALL_SIDES = [(one, other) for one in range(1, 61) for other in range(1, 61) if one * other <= 60]
PAIRS = [sides for sides in ALL_SIDES if gcd(*sides) == 1]
NO_PAIRS = [sides for sides in ALL_SIDES if gcd(*sides) > 1]
NO_SIDES = [
    (0, 0), (0, 1), (1, 0), (0, 60), (60, 0), (0, 61), (-1, 1), (1, -1), (-1, -1), (-6, -10), (-60, -1), (-2, 5),
    (1, 61), (61, 1), (2, 31), (31, 2), (7, 9), (8, 8), (60, 60), (BIG, 1), (1, BIG), (BIG, BIG), (BIG, -BIG),
    (-BIG, 0), (0, BIG),
]
ANY_LISTS = [
    [], [(0, 0)], [(0, 0), (0, 0)], [(1, 0), (0, 0)], [(-1, 0)], [(60, 60)], [0], [0, 1], ["x"], [None], [[0, 0]], [()],
]
# Sides, a beat, starts, and whether these are a partner.
SOME = [
    ((1, 1), [(0, 0)], [(0, 0)], True),
    ((2, 2), [(0, 0), (0, 1)], [(0, 0), (1, 0)], True),
    ((2, 2), [(0, 0), (0, 1)], [(0, 0), (1, 1)], True),
    ((2, 2), [(0, 0), (0, 1)], [(0, 0), (0, 1)], False),
    ((2, 2), [(0, 0), (1, 1)], [(0, 0), (0, 1)], True),
    ((2, 2), [(0, 0), (1, 1)], [(0, 0), (1, 1)], False),
    ((2, 2), [(0, 0)], [(0, 0), (0, 1), (1, 0), (1, 1)], True),
    ((2, 2), [(0, 0)], [(0, 0), (0, 1), (1, 0)], False),
    ((2, 2), [(0, 0), (0, 1)], [(0, 0), (0, 1), (1, 0)], False),
    ((2, 3), [(0, 0), (1, 1)], [(0, 0), (0, 1), (0, 2)], True),
    ((2, 3), [(0, 0), (1, 1)], [(1, 0), (1, 1), (1, 2)], True),
    ((2, 3), [(0, 1), (0, 2), (1, 0)], [(0, 0), (1, 0)], True),
    ((3, 3), [(0, 0), (0, 1), (1, 0)], [(0, 0), (1, 1), (2, 2)], True),
    ((3, 3), [(0, 0), (0, 1), (1, 0)], [(0, 0), (1, 2), (2, 1)], False),
    ((3, 3), [(0, 0), (1, 1), (2, 2)], [(0, 0), (0, 1), (0, 2)], True),
    ((4, 4), [(0, 0), (0, 1), (1, 0), (1, 1)], [(0, 0), (0, 2), (2, 0), (2, 2)], True),
    ((4, 4), [(0, 0), (0, 1), (1, 0), (1, 1)], [(0, 0), (0, 2), (2, 1), (2, 3)], True),
    ((4, 4), [(0, 0), (0, 1), (1, 0), (1, 1)], [(0, 0), (0, 2), (1, 2), (2, 0)], False),
    ((1, 4), [(0, 1), (0, 2)], [(0, 0), (0, 2)], True),
    ((4, 1), [(1, 0), (2, 0)], [(0, 0), (2, 0)], True),
    ((4, 1), [(1, 0), (3, 0)], [(0, 0), (2, 0)], False),
]
# Sides, a torus beat, and the beat of the wheel that it is when laid flat.
FLAT = [
    ((1, 1), [(0, 0)], [0]),
    ((2, 3), [(0, 0)], [0]),
    ((2, 3), [(1, 1)], [1]),
    ((2, 3), [(0, 2)], [2]),
    ((2, 3), [(1, 0)], [3]),
    ((2, 3), [(0, 1)], [4]),
    ((2, 3), [(1, 2)], [5]),
    ((2, 3), [(0, 1), (0, 2), (1, 0)], [2, 3, 4]),
    ((3, 2), [(0, 1), (1, 0), (2, 0)], [2, 3, 4]),
    ((3, 4), [(0, 0), (1, 1), (2, 2)], [0, 1, 2]),
    ((3, 4), [(0, 3), (2, 3)], [3, 11]),
    ((1, 5), [(0, 0), (0, 4)], [0, 4]),
    ((5, 1), [(0, 0), (4, 0)], [0, 4]),
    ((4, 15), [(0, 1), (3, 14)], [16, 59]),
    ((60, 1), [(59, 0)], [59]),
    ((1, 60), [(0, 59)], [59]),
]


def spots_of(sides):
    return [(x, y) for x in range(sides[0]) for y in range(sides[1])]


def torus_beats(sides):
    spots = spots_of(sides)
    return [list(beat) for size in range(1, len(spots) + 1) for beat in combinations(spots, size)]


def some_beat(chance, sides):
    spots = spots_of(sides)
    return sorted(chance.sample(spots, chance.randint(1, len(spots))))


def fills_torus(sides, beat, starts):
    counts = dict.fromkeys(spots_of(sides), 0)
    for x, y in beat:
        for right, up in starts:
            counts[(x + right) % sides[0], (y + up) % sides[1]] += 1
    return set(counts.values()) == {1}


def lists_that_are_no_beat(sides):
    one, other = sides
    lists = [[], [(one, 0)], [(0, other)], [(-1, 0)], [(0, -1)], [(one, other)], [(0, 0), (0, 0)], [(BIG, 0)]]
    lists += [[(-BIG, 0)], [(0, 0), (one, 0)], [(-1, 0), (0, 0)], [(0, -1), (0, 0)], [(0, 0), (0, other)]]
    lists += [[0], [0, 1], [(0,)], [()], [(0, 0, 0)], [[0, 0]], [(0, 0), [0, 0]], ["x"], ["00"], [None], [("0", "0")]]
    lists += [[((0, 0), (0, 0))], [(0, None)]]
    whole = spots_of(sides)
    lists += [whole + whole[-1:], whole[:1] + whole]
    if len(whole) > 1:
        lists += [whole[::-1], whole[1:] + whole[:1], whole[:2][::-1]]
    return lists


class TorusPartner(unittest.TestCase):
    def test_some(self):
        for sides, beat, starts, asked in SOME:
            self.assertIs(torus_partner(sides, beat, starts), asked, (sides, beat, starts))
            self.assertIs(torus_partner(sides, starts, beat), asked, (sides, beat, starts))

    def test_all_of_small_tori(self):
        for sides in [(1, 1), (1, 2), (2, 1), (1, 3), (2, 2), (4, 1), (2, 3), (3, 2)]:
            found = 0
            beats = torus_beats(sides)
            for beat in beats:
                for starts in beats:
                    told = torus_partner(sides, beat, starts)
                    self.assertIs(told, fills_torus(sides, beat, starts), (sides, beat, starts))
                    found += told
            self.assertGreater(found, 0)

    def test_all_starts_of_some_beats(self):
        for sides, size in [((3, 3), 3), ((2, 4), 4), ((4, 2), 4), ((2, 5), 2)]:
            spots = spots_of(sides)
            for beat in combinations(spots, size):
                for starts in combinations(spots, len(spots) // size):
                    told = torus_partner(sides, list(beat), list(starts))
                    self.assertIs(told, fills_torus(sides, beat, starts))

    def test_boxes_on_each_torus(self):
        for sides in ALL_SIDES:
            for one in [number for number in range(1, sides[0] + 1) if sides[0] % number == 0]:
                for other in [number for number in range(1, sides[1] + 1) if sides[1] % number == 0]:
                    beat = spots_of((one, other))
                    starts = [(x, y) for x in range(0, sides[0], one) for y in range(0, sides[1], other)]
                    self.assertIs(torus_partner(sides, beat, starts), True)
                    self.assertIs(torus_partner(sides, starts, beat), True)
                    if len(starts) > 1:
                        self.assertIs(torus_partner(sides, beat, starts[1:]), False)

    def test_moved_ones_stay_partners(self):
        for sides, beat, starts, asked in SOME:
            for right, up in spots_of(sides):
                moved = sorted(((x + right) % sides[0], (y + up) % sides[1]) for x, y in beat)
                self.assertIs(torus_partner(sides, moved, starts), asked)

    def test_chosen_ones(self):
        chance = Random(26)
        for sides in ALL_SIDES:
            beat, starts = some_beat(chance, sides), some_beat(chance, sides)
            self.assertIs(torus_partner(sides, beat, starts), fills_torus(sides, beat, starts))

    def test_not_on_the_torus_with_the_sides_changed(self):
        beat, starts = [(0, 0), (1, 1)], [(0, 0), (0, 1), (0, 2)]
        self.assertIs(torus_partner((2, 3), beat, starts), True)
        self.assertIs(refusal(torus_partner, (3, 2), beat, starts), NoBeat)

    def test_by_name(self):
        self.assertIs(torus_partner(sides=(1, 2), beat=[(0, 0)], starts=[(0, 0), (0, 1)]), True)


class LaidFlatAndUp(unittest.TestCase):
    def test_some(self):
        for sides, beat, flat in FLAT:
            self.assertEqual(laid_flat(sides, beat), flat, (sides, beat))
            self.assertEqual(laid_up(sides, flat), beat, (sides, flat))

    def test_each_spot(self):
        for sides in PAIRS:
            places = []
            for x, y in spots_of(sides):
                told = laid_flat(sides, [(x, y)])
                self.assertEqual([type(told), len(told)], [list, 1])
                self.assertEqual((told[0] % sides[0], told[0] % sides[1]), (x, y))
                places += told
            self.assertEqual(sorted(places), list(range(sides[0] * sides[1])))

    def test_each_place(self):
        for sides in PAIRS:
            for place in range(sides[0] * sides[1]):
                told = laid_up(sides, [place])
                self.assertEqual(told, [(place % sides[0], place % sides[1])])
                self.assertEqual([type(told), type(told[0]), type(told[0][0])], [list, tuple, int])

    def test_there_and_back(self):
        chance = Random(27)
        for sides in PAIRS:
            length = sides[0] * sides[1]
            for beat in [spots_of(sides), some_beat(chance, sides), some_beat(chance, sides)]:
                flat = laid_flat(sides, beat)
                self.assertEqual(flat, sorted(set(flat)))
                self.assertTrue(flat[0] >= 0 and flat[-1] < length)
                self.assertEqual(sorted((place % sides[0], place % sides[1]) for place in flat), beat)
                self.assertEqual(laid_up(sides, flat), beat)
            for beat in [list(range(length)), sorted(chance.sample(range(length), chance.randint(1, length)))]:
                self.assertEqual(laid_flat(sides, laid_up(sides, beat)), beat)

    def test_all_beats_of_small_tori(self):
        for sides in [(1, 1), (1, 6), (6, 1), (2, 3), (3, 2), (2, 5)]:
            for beat in torus_beats(sides):
                self.assertEqual(laid_up(sides, laid_flat(sides, beat)), beat)

    def test_by_name(self):
        self.assertEqual(laid_flat(sides=(2, 3), beat=[(1, 0)]), [3])
        self.assertEqual(laid_up(sides=(2, 3), beat=[3]), [(1, 0)])


class PartnersAreKept(unittest.TestCase):
    def check(self, sides, beat, starts):
        told = torus_partner(sides, beat, starts)
        flat = is_partner(sides[0] * sides[1], laid_flat(sides, beat), laid_flat(sides, starts))
        self.assertIs(told, flat, (sides, beat, starts))
        return told

    def test_on_small_tori(self):
        for sides in [(1, 1), (1, 5), (5, 1), (2, 3), (3, 2)]:
            beats = torus_beats(sides)
            told = [self.check(sides, beat, starts) for beat in beats for starts in beats]
            self.assertGreater(told.count(True), 0)

    def test_on_a_longer_torus(self):
        spots = spots_of((3, 4))
        told = []
        for rest in combinations(spots[1:], 2):
            for others in combinations(spots[1:], 3):
                told.append(self.check((3, 4), [spots[0], *rest], [spots[0], *others]))
        self.assertGreater(told.count(True), 20)
        self.assertGreater(told.count(False), 20)

    def test_from_the_wheel(self):
        for sides in PAIRS:
            length = sides[0] * sides[1]
            for size in [number for number in range(1, length + 1) if length % number == 0]:
                beat, starts = list(range(size)), list(range(0, length, size))
                self.assertIs(torus_partner(sides, laid_up(sides, beat), laid_up(sides, starts)), True)
                self.assertIs(self.check(sides, laid_up(sides, beat), laid_up(sides, starts)), True)


class Refusals(unittest.TestCase):
    def test_sides_that_are_none(self):
        for sides in NO_SIDES:
            for numbers in ANY_LISTS:
                with self.subTest(sides=sides, numbers=numbers):
                    self.assertIs(refusal(torus_partner, sides, numbers, [(0, 0)]), NoWheel)
                    self.assertIs(refusal(torus_partner, sides, [(0, 0)], numbers), NoWheel)
                    self.assertIs(refusal(torus_partner, sides, numbers, numbers), NoWheel)
                    self.assertIs(refusal(laid_flat, sides, numbers), NoWheel)
                    self.assertIs(refusal(laid_up, sides, numbers), NoWheel)

    def test_not_just_two_sides(self):
        for sides in [(), (1,), (6,), (1, 1, 1), (2, 3, 1)]:
            for call in [laid_flat, laid_up]:
                self.assertIs(refusal(call, sides, [(0, 0)]), NoWheel)
            self.assertIs(refusal(torus_partner, sides, [(0, 0)], [(0, 0)]), NoWheel)

    def test_just_so_many_spots(self):
        for one in range(1, 63):
            for other in range(1, 63):
                asked = NoWheel if one * other > 60 else None
                self.assertIs(refusal(torus_partner, (one, other), [(0, 0)], [(0, 0)]), asked, (one, other))

    def test_lists_that_are_no_torus_beat(self):
        for sides in [(1, 1), (1, 2), (2, 1), (2, 3), (3, 2), (3, 3), (6, 10), (4, 15), (1, 60), (60, 1)]:
            for numbers in lists_that_are_no_beat(sides):
                with self.subTest(sides=sides, numbers=numbers):
                    self.assertIs(refusal(torus_partner, sides, list(numbers), [(0, 0)]), NoBeat)
                    self.assertIs(refusal(torus_partner, sides, [(0, 0)], list(numbers)), NoBeat)
                    self.assertIs(refusal(laid_flat, sides, list(numbers)), NoBeat)

    def test_lists_that_are_no_beat_of_the_wheel(self):
        for sides in [(1, 1), (2, 3), (3, 3), (6, 10), (4, 15), (1, 60)]:
            length = sides[0] * sides[1]
            for numbers in [[], [-1], [length], [0, 0], [0, length], [BIG], [-BIG], [length - 1, 0], [-1, 0]]:
                self.assertIs(refusal(laid_up, sides, numbers), NoBeat, (sides, numbers))

    def test_no_pair(self):
        self.assertIn((2, 2), NO_PAIRS)
        self.assertIn((6, 10), NO_PAIRS)
        for sides in NO_PAIRS:
            whole = spots_of(sides)
            self.assertIs(refusal(laid_flat, sides, whole[-1:]), NoPair, sides)
            self.assertIs(refusal(laid_flat, sides, whole), NoPair, sides)
            self.assertIs(refusal(laid_up, sides, [len(whole) - 1]), NoPair, sides)
            self.assertIs(refusal(laid_up, sides, list(range(len(whole)))), NoPair, sides)

    def test_no_pair_behind_no_beat(self):
        for sides in NO_PAIRS:
            length = sides[0] * sides[1]
            for numbers in [[], [(0, sides[1])], [(sides[0], 0)], [(0, 1), (0, 0)]]:
                self.assertIs(refusal(laid_flat, sides, numbers), NoBeat, sides)
            for numbers in [[], [length], [-1], [1, 0]]:
                self.assertIs(refusal(laid_up, sides, numbers), NoBeat, sides)

    def test_no_pair_behind_no_wheel(self):
        for sides in [(8, 8), (0, 0), (-2, -2), (2, 32), (60, 60)]:
            self.assertIs(refusal(laid_flat, sides, [(0, 0)]), NoWheel)
            self.assertIs(refusal(laid_up, sides, [0]), NoWheel)

    def test_pairs_are_taken(self):
        for sides in PAIRS:
            self.assertIsNone(refusal(laid_flat, sides, [(0, 0)]))
            self.assertIsNone(refusal(laid_up, sides, [0]))

    def test_partners_are_told_on_each_torus(self):
        for sides in ALL_SIDES:
            self.assertIs(torus_partner(sides, [(0, 0)], spots_of(sides)), True)


if __name__ == "__main__":
    unittest.main()
