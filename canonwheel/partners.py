"""All partners of a beat, and their kinds."""

from canonwheel.cases import all_that_fill, count_divides, partner_walk
from canonwheel.turns import first_turn


def all_partners(length, beat):
    if not count_divides(length, beat):
        return []
    return sorted(all_that_fill(partner_walk(length, beat)))


# Each partner may be turned to one that has 0, so those that have it show all kinds.
def partner_kinds(length, beat):
    kinds = [tuple(first_turn(length, starts)) for starts in all_partners(length, beat)]
    return [list(kind) for kind in sorted(set(kinds))]
