"""How a beat and starts share out the parts of the wheel."""

from canonwheel.beats import check_wheel
from canonwheel.parts import divisors, parts_had


def shares(length, beat, starts):
    of_beat = parts_had(length, beat)
    of_starts = parts_had(length, starts)
    return [(number, number in of_beat, number in of_starts) for number in divisors(length)[1:]]


# The least divisor above 1 of a number is a prime, and of a prime power the only one.
def prime_of(number):
    return divisors(number)[1]


def has_one_prime(number):
    prime = prime_of(number)
    return all([divisor % prime == 0 for divisor in divisors(number)[1:]])


def prime_powers(length):
    check_wheel(length)
    return [number for number in divisors(length)[1:] if has_one_prime(number)]
