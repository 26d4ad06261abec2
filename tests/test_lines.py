"""[21] to [24]: line beats, their steps and runs, and the windows of wheels."""

import unittest
from itertools import combinations
from random import Random
from unittest.mock import patch

from canonwheel.cases import sought_partner
from canonwheel.errors import NoBeat, NoWheel, NoWindow, TooMany
from canonwheel.lines import line_run, line_step, wheel_window
from helpers import BIG, fall, refusal, small_partners

TWELVE = [0, 1, 2, 3, 4, 5, 6, 7, 8, 9, 10, 60]
LINE_BEATS = [
    [0], [0, 1], [0, 60], [0, 2, 3], [0, 1, 59], [0, 30, 60], list(range(12)), TWELVE,
    [0, 50, 51, 52, 53, 54, 55, 56, 57, 58, 59, 60],
]
NO_LINE_BEATS = [
    [], [1], [-1], [60], [61], [BIG], [-BIG], [0, 0], [0, 61], [0, BIG], [0, 1, 61], [1, 2], [1, 60], [-1, 0],
    [-1, 0, 1], [0, -1], [0, 2, 1], [0, 2, 2], [1, 0], [2, 0, 1], [0, 3, 60, 59], [0, 30, 0], [0, 61, 60], [60, 0],
    list(range(13)), list(range(1, 13)), [*range(12), 60], list(range(61)), list(range(60)), [0] * 12, [0] * 13,
]
STEPS = [
    ([0], 0, (True, 0)),
    ([0, 1], 0, (True, 1)),
    ([0, 1], 1, (False, 0)),
    ([0, 2], 0, (True, 2)),
    ([0, 2], 1, (False, 0)),
    ([0, 2], 2, (True, 3)),
    ([0, 2], 3, (False, 1)),
    ([0, 1, 2], 0, (True, 3)),
    ([0, 1, 2], 1, (False, 0)),
    ([0, 1, 2], 2, None),
    ([0, 1, 2], 3, (False, 1)),
    ([0, 2, 3], 4, None),
    ([0, 2, 3], 2, (True, 7)),
    ([0, 2, 3], 6, None),
    ([0, 1, 4, 5], 0, (True, 25)),
    ([0, 1, 4, 5], 12, (True, 31)),
    ([0, 1, 4, 5], 16, None),
    ([0, 60], 0, (True, 2 ** 59)),
    ([0, 60], 2 ** 60 - 1, (False, 2 ** 59 - 1)),
    ([0, 60], 2 ** 60 - 2, (True, 2 ** 60 - 1)),
    (TWELVE, 2 ** 60 - 2 ** 11, (True, 2 ** 60 - 1)),
    (TWELVE, 2 ** 60 - 2 ** 10, None),
]
# The run of the last one is the longest that is known to be stuck.
RUNS = [
    ([0], 0, ("again", 1, [0])),
    ([0, 1], 0, ("again", 2, [0])),
    ([0, 1], 1, ("again", 2, [1])),
    ([0, 2], 0, ("again", 4, [0, 1])),
    ([0, 2], 1, ("again", 4, [1, 2])),
    ([0, 2], 2, ("again", 4, [0, 3])),
    ([0, 2], 3, ("again", 4, [2, 3])),
    ([0, 1, 2], 0, ("again", 3, [0])),
    ([0, 1, 2], 2, ("stuck", 0)),
    ([0, 2, 3], 0, ("stuck", 1)),
    ([0, 1, 3], 0, ("stuck", 2)),
    ([0, 1, 4, 5], 0, ("again", 8, [0, 2])),
    ([0, 1, 4, 5], 7, ("again", 8, [3, 5])),
    ([0, 1, 4, 5], 16, ("stuck", 0)),
    ([0, 60], 0, ("again", 120, list(range(60)))),
    ([0, 30, 60], 0, ("again", 90, list(range(30)))),
    ([0, 1, 3, 4], 9, ("stuck", 8)),
    ([0, 9, 11, 20], 559581, ("stuck", 120)),
    ([0, 29, 31, 60], 614891469481565661, ("stuck", 960)),
]


def plain_run(beat, window):
    """A run over the places that are filled, all windows that were there being kept."""
    filled = {place for place in range(61) if window >> place & 1}
    starts = []
    known = {}
    place = 0
    while True:
        ahead = tuple(sorted(other - place for other in filled if other >= place))
        if ahead in known:
            return ("again", place, starts, known[ahead])
        known[ahead] = place
        if place not in filled:
            if any(place + number in filled for number in beat):
                return ("stuck", place)
            filled |= {place + number for number in beat}
            starts.append(place)
        place += 1


def short_line_beats():
    beats = [[0]]
    for last in range(1, 9):
        for size in range(last):
            beats += [[0, *rest, last] for rest in combinations(range(1, last), size)]
    return beats


def chosen_runs():
    """Longer line beats with windows: any, and such as the places of a wheel give."""
    chance = Random(21)
    asked = []
    for count in range(400):
        rest = chance.sample(range(1, 61), chance.randrange(1, 12))
        beat = [0, *sorted(rest)]
        asked += [(beat, chance.randrange(2 ** beat[-1])), (beat, 0)]
    for step in range(1, 61):
        whole = [0, *range(step, 60, step)][:12]
        asked += [(whole, 0), (whole, chance.randrange(2 ** whole[-1])), ([0, step], chance.randrange(2 ** step))]
    return asked


class Steps(unittest.TestCase):
    def test_some(self):
        for beat, window, told in STEPS:
            self.assertEqual(line_step(beat, window), told, (beat, window))

    def test_kinds(self):
        self.assertEqual([type(value) for value in line_step([0, 2], 1)], [bool, int])
        self.assertEqual([type(value) for value in line_step([0, 2], 2)], [bool, int])
        self.assertIs(type(line_step([0, 2], 2)), tuple)
        self.assertIsNone(line_step([0, 1, 2], 2))

    def test_the_next_window_is_one(self):
        for beat in short_line_beats():
            for window in range(2 ** beat[-1]):
                told = line_step(beat, window)
                if told is not None:
                    self.assertTrue(0 <= told[1] < 2 ** beat[-1])

    def test_all_windows_of_short_line_beats(self):
        for beat in short_line_beats():
            shape = set(beat)
            for window in range(2 ** beat[-1]):
                filled = {place for place in range(beat[-1]) if window >> place & 1}
                if 0 in filled:
                    asked = (False, sum(2 ** (place - 1) for place in filled - {0}))
                elif filled & shape:
                    asked = None
                else:
                    asked = (True, sum(2 ** (place - 1) for place in (filled | shape) - {0}))
                self.assertEqual(line_step(beat, window), asked, (beat, window))

    def test_by_name(self):
        self.assertEqual(line_step(beat=[0, 2], window=2), (True, 3))


class Runs(unittest.TestCase):
    def check(self, beat, window):
        told = line_run(beat, window)
        asked = plain_run(beat, window)
        self.assertEqual(told, asked[:3], (beat, window))
        self.assertIs(type(told), tuple)
        self.assertIs(type(told[1]), int)
        if told[0] == "again":
            self.assertIs(type(told[2]), list)
            # The window that comes again is that of place 0.
            self.assertEqual(asked[3], 0)
            sums = sorted((start + number) % told[1] for start in told[2] for number in beat)
            self.assertEqual(sums, list(range(told[1])))
        return told[0]

    def test_some(self):
        for beat, window, told in RUNS:
            self.assertEqual(line_run(beat, window), told)
            self.check(beat, window)

    def test_all_windows_of_short_line_beats(self):
        told = [self.check(beat, window) for beat in short_line_beats() for window in range(2 ** beat[-1])]
        self.assertGreater(told.count("again"), 500)
        self.assertGreater(told.count("stuck"), 500)

    def test_longer_line_beats(self):
        told = [self.check(beat, window) for beat, window in chosen_runs()]
        self.assertGreater(told.count("again"), 60)
        self.assertGreater(told.count("stuck"), 500)

    def test_of_two_numbers_none_is_stuck(self):
        chance = Random(22)
        for last in range(1, 61):
            for window in [0, 2 ** last - 1, 2 ** last // 3, chance.randrange(2 ** last)]:
                self.assertEqual(self.check([0, last], window), "again")
                self.assertEqual(2 * last % line_run([0, last], window)[1], 0)

    def test_steps_lead_through_it(self):
        for beat, window, told in RUNS:
            now = window
            starts = []
            for place in range(told[1]):
                begun, now = line_step(beat, now)
                starts += [place] if begun else []
            if told[0] == "again":
                self.assertEqual((now, starts), (window, told[2]))
            else:
                self.assertIsNone(line_step(beat, now))

    def test_by_name(self):
        self.assertEqual(line_run(beat=[0, 2], window=2), ("again", 4, [0, 3]))


# No line beat is known whose run is so long, so the steps are led here: windows are counted up from 0 to the last.
class BoundOfRuns(unittest.TestCase):
    def led_run(self, last, end):
        def step(beat, window):
            return end if window == last else (window % 3 == 0, window + 1)

        with patch("canonwheel.lines.line_step", step):
            return line_run([0, 60], 0)

    def test_stuck_at_the_bound(self):
        for at in [0, 1, 1998, 1999]:
            self.assertEqual(self.led_run(at, None), ("stuck", at))

    def test_stuck_beyond(self):
        for at in [2000, 2001, 5000]:
            self.assertIs(refusal(self.led_run, at, None), TooMany)

    def test_again_at_the_bound(self):
        for length in [1, 2, 1999, 2000]:
            starts = [place for place in range(length - 1) if place % 3 == 0] + [length - 1]
            self.assertEqual(self.led_run(length - 1, (True, 0)), ("again", length, starts))

    def test_again_beyond(self):
        for length in [2001, 2002, 5000]:
            self.assertIs(refusal(self.led_run, length - 1, (True, 0)), TooMany)


class LineRefusals(unittest.TestCase):
    def test_bounds_that_are_kept(self):
        for beat in LINE_BEATS:
            for window in {0, 2 ** beat[-1] // 2, 2 ** beat[-1] - 1}:
                for call in (line_step, line_run):
                    self.assertIsNone(refusal(call, beat, window), (beat, window))

    def test_no_beat_whatever_the_window(self):
        for beat in NO_LINE_BEATS:
            for window in [0, 1, 2, -1, 2 ** 60, BIG, -BIG]:
                for call in (line_step, line_run):
                    self.assertIs(refusal(call, list(beat), window), NoBeat, (beat, window))

    def test_no_window(self):
        for beat in LINE_BEATS:
            beyond = 2 ** beat[-1]
            for window in [-1, -2, -beyond, beyond, beyond + 1, beyond * 2, BIG, -BIG]:
                for call in (line_step, line_run):
                    self.assertIs(refusal(call, beat, window), NoWindow, (beat, window))


def plain_window(length, beat, starts):
    """The window of place 0, the starts being moved on by the length, some laps to both sides."""
    below = [start + lap * length for start in starts for lap in range(-4, 4) if start + lap * length < 0]
    return sum(2 ** place for place in range(200) if any(place - start in beat for start in below))


class WheelWindows(unittest.TestCase):
    def check(self, length, beat, starts):
        window = wheel_window(length, beat, starts)
        self.assertIs(type(window), int)
        self.assertEqual(window, plain_window(length, beat, starts), (length, beat, starts))
        told = line_run(beat, window)
        self.assertEqual(told[0], "again")
        self.assertEqual(length % told[1], 0)
        self.assertEqual(told[2], [start for start in starts if start < told[1]])
        return told[1]

    def test_some(self):
        self.assertEqual(wheel_window(1, [0], [0]), 0)
        self.assertEqual(wheel_window(4, [0, 1], [0, 2]), 0)
        self.assertEqual(wheel_window(4, [0, 1], [1, 3]), 1)
        self.assertEqual(wheel_window(4, [0, 2], [0, 1]), 0)
        self.assertEqual(wheel_window(4, [0, 2], [0, 3]), 2)
        self.assertEqual(wheel_window(4, [0, 2], [2, 3]), 3)
        self.assertEqual(wheel_window(8, [0, 7], [0, 2, 4, 6]), 42)
        self.assertEqual(wheel_window(60, [0, 59], list(range(1, 60, 2))), int("01" * 30, 2))
        self.assertEqual(wheel_window(60, [0], list(range(60))), 0)

    def test_short_wheels(self):
        lengths = []
        for length, beat, starts in small_partners():
            for by in range(length):
                lengths.append((length, self.check(length, beat, sorted(fall(length, starts, [by])))))
        self.assertIn((12, 12), lengths)
        self.assertIn((12, 2), lengths)
        self.assertIn((12, 1), lengths)

    def test_longer_wheels(self):
        chance = Random(24)
        checked = 0
        for length in range(13, 61):
            for size in [number for number in range(1, 13) if length % number == 0]:
                for count in range(4):
                    beat = sorted(place + size * chance.randrange(length // size) for place in range(1, size))
                    self.check(length, [0, *beat], list(range(count % size, length, size)))
                    checked += 1
        self.assertGreater(checked, 500)

    def test_partners_that_are_sought(self):
        for length, beat in [(8, [0, 4]), (60, [0, 30]), (36, [0, 10, 12, 22, 24, 34]), (60, [0, 1, 2, 30, 31, 32]),
                             (60, list(range(12))), (60, list(range(0, 60, 5)))]:
            starts = sought_partner(length, beat)[1]
            for by in [0, 1, 7]:
                self.check(length, beat, sorted(fall(length, starts, [by])))

    def test_refusals(self):
        for beat, starts in [([], [0]), ([0], []), ([0, 0], [0]), ([0], [1, 0]), ([0, 4], [0, 1]), ([0, 2], [0, 4]),
                             ([0, 2], [-1, 0]), ([], [])]:
            self.assertIs(refusal(wheel_window, 4, beat, starts), NoBeat)
            for length in [0, -4, 61, BIG]:
                self.assertIs(refusal(wheel_window, length, beat, starts), NoWheel)

    def test_by_name(self):
        self.assertEqual(wheel_window(length=4, beat=[0, 2], starts=[0, 3]), 2)


if __name__ == "__main__":
    unittest.main()
