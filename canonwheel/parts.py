"""The parts of sums, and which of them a beat has."""

from canonwheel.beats import check_beat
from canonwheel.errors import NoPart
from canonwheel.sums import beat_sum, sum_divided

LAST_PART = 60


def divisors(number):
    if number < 1 or number > LAST_PART:
        raise NoPart("parts are numbered from 1 to 60")
    return [divisor for divisor in range(1, number + 1) if number % divisor == 0]


# A part is told by those ahead of it, so the parts of all divisors come at once.
def parts_of_divisors(number):
    found = {}
    for divisor in divisors(number):
        left = [-1] + [0] * (divisor - 1) + [1]
        for ahead in divisors(divisor)[:-1]:
            left = sum_divided(left, found[ahead])[0]
        found[divisor] = left
    return found


def part(number):
    return parts_of_divisors(number)[number]


def leaves_nought(beat, divisor):
    return sum_divided(beat_sum(beat), divisor)[1] == []


def has_part(beat, number):
    return leaves_nought(beat, part(number))


def parts_had(length, beat):
    check_beat(length, beat)
    found = parts_of_divisors(length)
    return [number for number in divisors(length)[1:] if leaves_nought(beat, found[number])]
