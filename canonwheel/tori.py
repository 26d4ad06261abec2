"""Tori: beats on a wheel of two sides, and how they are laid on a plain one."""

from canonwheel.beats import check_beat, check_wheel
from canonwheel.errors import NoBeat, NoPair, NoWheel
from canonwheel.parts import divisors


def check_sides(sides):
    if len(sides) != 2 or min(sides) < 1:
        raise NoWheel("a torus has two sides, each of 1 at least")
    check_wheel(sides[0] * sides[1])


def all_spots(sides):
    spots = []
    for across in range(sides[0]):
        spots.extend([(across, along) for along in range(sides[1])])
    return spots


# The spots stand sorted and each once, so a list is a torus beat just where picking them out by it tells it again.
def check_torus_beat(sides, beat):
    check_sides(sides)
    if len(beat) == 0 or beat != [spot for spot in all_spots(sides) if spot in beat]:
        raise NoBeat("a torus beat is a sorted list of unlike spots, of one at least")


def check_pair(sides):
    if any([sides[1] % divisor == 0 for divisor in divisors(sides[0])[1:]]):
        raise NoPair("the sides share a divisor above 1")


def torus_partner(sides, beat, starts):
    check_torus_beat(sides, beat)
    check_torus_beat(sides, starts)
    falls = []
    for start in starts:
        falls.extend([((spot[0] + start[0]) % sides[0], (spot[1] + start[1]) % sides[1]) for spot in beat])
    return sorted(falls) == all_spots(sides)


def spot_of(sides, place):
    return (place % sides[0], place % sides[1])


def laid_flat(sides, beat):
    check_torus_beat(sides, beat)
    check_pair(sides)
    return [place for place in range(sides[0] * sides[1]) if spot_of(sides, place) in beat]


def laid_up(sides, beat):
    check_sides(sides)
    check_beat(sides[0] * sides[1], beat)
    check_pair(sides)
    return sorted([spot_of(sides, place) for place in beat])
