"""Beats laid on the endless line, place by place."""

from canonwheel.beats import check_beat, check_rising
from canonwheel.errors import NoBeat, NoWindow, TooMany

MOST_NUMBERS = 12
LAST_NUMBER = 60
MOST_STEPS = 2000


def check_line_beat(beat):
    check_rising(beat, LAST_NUMBER + 1)
    if beat[0] != 0 or len(beat) > MOST_NUMBERS:
        raise NoBeat("a line beat has 0 and at most 12 numbers")


def check_window(beat, window):
    check_line_beat(beat)
    if window < 0 or window >= powers_of_two([beat[-1]]):
        raise NoWindow("a window is from 0 to below 2 ** w, w being the last number of the line beat")


def powers_of_two(numbers):
    return sum([1 << number for number in numbers])


def line_step(beat, window):
    check_window(beat, window)
    if window % 2 == 1:
        return (False, window // 2)
    shape = powers_of_two(beat)
    if (window & shape) != 0:
        return None
    return (True, (window + shape) // 2)


def line_run(beat, window):
    starts = []
    now = window
    for place in range(MOST_STEPS):
        step = line_step(beat, now)
        if step is None:
            return ("stuck", place)
        if step[0]:
            starts.append(place)
        now = step[1]
        # No two windows go on to one and the same, so none comes again ahead of the first one.
        if now == window:
            return ("again", place + 1, starts)
    raise TooMany("a run is told up to 2000 steps")


# A beat is shorter than its wheel, so of those begun below 0 only the lap just ahead of 0 comes so far.
def wheel_window(length, beat, starts):
    check_beat(length, beat)
    check_beat(length, starts)
    filled = []
    for start in starts:
        filled.extend([start + place - length for place in beat if start + place >= length])
    return powers_of_two(filled)
