"""The two rules, and the partner that is made where both hold."""

from canonwheel.beats import made_beat
from canonwheel.errors import NoRule
from canonwheel.parts import parts_had
from canonwheel.shares import prime_of, prime_powers


def powers_had(length, beat):
    had = parts_had(length, beat)
    return [power for power in prime_powers(length) if power in had]


def first_rule(length, beat):
    product = 1
    for power in powers_had(length, beat):
        product *= prime_of(power)
    return product == len(beat)


def unlike_products(powers):
    products = [1]
    for power in powers:
        prime = prime_of(power)
        products = products + [product * power for product in products if product % prime != 0]
    return products


# A choice of one power alone is among the products, too; its part is had, so it never fails the rule.
def second_rule(length, beat):
    had = parts_had(length, beat)
    return all([product in had for product in unlike_products(powers_had(length, beat))[1:]])


def row_of_power(length, power):
    prime = prime_of(power)
    step = length
    while step % prime == 0:
        step //= prime
    return [number * step * (power // prime) for number in range(prime)]


def all_added(numbers, row):
    added = []
    for number in numbers:
        added.extend([number + more for more in row])
    return added


def made_partner(length, beat):
    if not first_rule(length, beat) or not second_rule(length, beat):
        raise NoRule("a partner is made where both rules hold")
    had = powers_had(length, beat)
    starts = [0]
    for power in prime_powers(length):
        if power not in had:
            starts = all_added(starts, row_of_power(length, power))
    return made_beat(length, starts)
