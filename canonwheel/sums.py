"""Sums of powers: lists of whole numbers, the one at k standing for so many times the power k of x."""

from canonwheel.errors import NoPart


def beat_sum(beat):
    if len(beat) == 0:
        return []
    numbers = [0] * (beat[-1] + 1)
    for place in beat:
        numbers[place] = 1
    return numbers


def sum_product(one, other):
    if len(one) == 0 or len(other) == 0:
        return []
    numbers = [0] * (len(one) + len(other) - 1)
    for low, left in enumerate(one):
        for high, right in enumerate(other):
            numbers[low + high] += left * right
    return numbers


def without_last_noughts(numbers):
    size = len(numbers)
    while size > 0 and numbers[size - 1] == 0:
        size -= 1
    return numbers[:size]


# With a last number of 1 each step takes out a whole number of times, so no fraction comes up.
def sum_divided(one, other):
    if len(other) == 0 or other[-1] != 1:
        raise NoPart("a sum is divided by one whose last number is 1")
    last = len(other) - 1
    rest = list(one)
    share = [0] * (len(one) - last)
    for low in range(len(share) - 1, -1, -1):
        share[low] = rest[low + last]
        for high, number in enumerate(other):
            rest[low + high] -= share[low] * number
    return (share, without_last_noughts(rest[:last]))
