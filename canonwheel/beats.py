"""Wheels and their beats: what is one, how one is made, where it falls."""

from canonwheel.errors import NoBeat, NoWheel

LONGEST = 60


def check_wheel(length):
    if length < 1 or length > LONGEST:
        raise NoWheel("a wheel has 1 to 60 places")


def check_rising(numbers, end):
    if len(numbers) == 0:
        raise NoBeat("a beat has one place at least")
    before = -1
    for number in numbers:
        if number <= before or number >= end:
            raise NoBeat("a beat is a rising list of places, none below 0 or too far on")
        before = number


# The length comes first: beside one that no wheel has, the list may hold anything.
def check_beat(length, beat):
    check_wheel(length)
    check_rising(beat, length)


def made_beat(length, numbers):
    check_wheel(length)
    beat = sorted([number % length for number in numbers])
    # Two numbers at one place stand side by side here, and so do not rise.
    check_beat(length, beat)
    return beat


def beat_counts(length, beat, starts):
    check_beat(length, beat)
    check_beat(length, starts)
    counts = [0] * length
    for start in starts:
        for place in beat:
            counts[(place + start) % length] += 1
    return counts


def is_partner(length, beat, starts):
    return beat_counts(length, beat, starts) == [1] * length
