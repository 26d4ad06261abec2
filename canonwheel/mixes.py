"""Mixes: beats of several kinds that fill a wheel together."""

from canonwheel.beats import check_beat, check_wheel
from canonwheel.cases import Walk, all_that_fill, first_that_fills, ways_of
from canonwheel.errors import NoBeat

MOST_KINDS = 4


# Anything may be held where a beat should be, so what is no list of ints is kept from being compared.
def check_kinds(length, kinds):
    check_wheel(length)
    if len(kinds) < 1 or len(kinds) > MOST_KINDS:
        raise NoBeat("there are one to four kinds")
    for beat in kinds:
        if not isinstance(beat, list) or not all([isinstance(place, int) for place in beat]):
            raise NoBeat("each kind is a beat")
        check_beat(length, beat)


def mix_walk(length, kinds):
    check_kinds(length, kinds)
    ways = [[] for place in range(length)]
    for kind, beat in enumerate(kinds):
        for place, pairs in enumerate(ways_of(length, beat)):
            ways[place].extend([((kind, start), places) for start, places in pairs])
    return Walk(ways, [])


def sought_mix(length, kinds):
    walk = mix_walk(length, kinds)
    pairs = first_that_fills(walk)
    if pairs is None:
        return ("barred", walk.rows)
    return ("mix", pairs)


# The least open place is filled by just one pair of a mix, so no mix is come to twice.
def mix_count(length, kinds):
    return len(all_that_fill(mix_walk(length, kinds)))
