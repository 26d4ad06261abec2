"""What several test files draw on; nothing here asks the program for an answer."""

from itertools import combinations

BIG = 10 ** 29 + 7
PRIMES = [2, 3, 5, 7, 11, 13, 17, 19, 23, 29, 31, 37, 41, 43, 47, 53, 59]


def all_beats(length):
    beats = []
    for size in range(1, length + 1):
        beats += [list(places) for places in combinations(range(length), size)]
    return beats


def partners(length, size):
    """All pairs of a beat of so many places and a partner of it, 0 among both."""
    pairs = []
    for rest in combinations(range(1, length), size - 1):
        for others in combinations(range(1, length), length // size - 1):
            beat = [0] + list(rest)
            starts = [0] + list(others)
            if len({(place + start) % length for place in beat for start in starts}) == length:
                pairs.append((beat, starts))
    return pairs


def small_partners():
    found = []
    for length in range(1, 13):
        for size in [number for number in range(1, length + 1) if length % number == 0]:
            found += [(length, beat, starts) for beat, starts in partners(length, size)]
    return found


def refusal(call, *arguments):
    """The very class of the error that the call ends with; None where it answers."""
    try:
        call(*arguments)
    except Exception as error:
        return type(error)
    return None


def plain_product(one, other):
    """Two sums multiplied, power by power."""
    powers = {}
    for low, left in enumerate(one):
        for high, right in enumerate(other):
            powers[low + high] = powers.get(low + high, 0) + left * right
    return no_last_noughts([powers[power] for power in sorted(powers)])


def plain_total(one, other):
    """Two sums added up."""
    size = max(len(one), len(other))
    filled = [numbers + [0] * (size - len(numbers)) for numbers in (one, other)]
    return no_last_noughts([left + right for left, right in zip(*filled)])


def no_last_noughts(numbers):
    while numbers and numbers[-1] == 0:
        numbers = numbers[:-1]
    return numbers


def divisors_above_one(number):
    return [divisor for divisor in range(2, number + 1) if number % divisor == 0]


def vanishes(beat, number):
    """Whether a beat has a part, told without a division.

    Times x ** (number // p) - 1, for each prime p of the number, a sum is nought at all roots of x ** number - 1 but
    those of the part; so it comes to nought round a wheel of that length just where it has the part.
    """
    around = [0] * number
    for place in beat:
        around[place % number] += 1
    for prime in [prime for prime in PRIMES if number % prime == 0]:
        around = [around[place - number // prime] - around[place] for place in range(number)]
    return not any(around)


def fall(length, beat, starts):
    """The places on which a beat falls when begun at the starts, as a set."""
    return {(place + start) % length for place in beat for start in starts}


def cases_in_order(length, beat, starts=(0,)):
    """The starts of one case after the other, as they are gone into, the case that is handed in first."""
    yield list(starts)
    filled = fall(length, beat, starts)
    if len(filled) < length:
        least = min(set(range(length)) - filled)
        for place in beat:
            more = (least - place) % length
            if not filled & fall(length, beat, [more]):
                yield from cases_in_order(length, beat, [*starts, more])


def mix_fall(length, kinds, pairs):
    """The places on which the beats fall when begun as the pairs (kind, start) say, one for each falling."""
    return [(place + start) % length for kind, start in pairs for place in kinds[kind]]


def mix_cases(length, kinds, pairs=()):
    """The pairs of one case after the other, as they are gone into, the case that is handed in first."""
    yield list(pairs)
    filled = set(mix_fall(length, kinds, pairs))
    if len(filled) < length:
        least = min(set(range(length)) - filled)
        for kind, beat in enumerate(kinds):
            for place in beat:
                more = (kind, (least - place) % length)
                if not filled & set(mix_fall(length, kinds, [more])):
                    yield from mix_cases(length, kinds, [*pairs, more])


def mix_fills(length, kinds, pairs):
    return sorted(mix_fall(length, kinds, pairs)) == list(range(length))


def fills(length, beat, starts):
    return len(beat) * len(starts) == length and len(fall(length, beat, starts)) == length
