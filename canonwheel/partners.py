"""All partners of a beat, and their kinds."""

from canonwheel.cases import count_divides, partner_walk
from canonwheel.turns import first_turn


def all_partners(length, beat):
    if not count_divides(length, beat):
        return []
    found = []
    walk = partner_walk(length, beat)
    while len(walk.waiting) > 0:
        starts = walk.go_on()
        if starts is not None:
            found.append(starts)
    return sorted(found)


# Each partner may be turned to one that has 0, so those that have it show all kinds.
def partner_kinds(length, beat):
    kinds = [tuple(first_turn(length, starts)) for starts in all_partners(length, beat)]
    return [list(kind) for kind in sorted(set(kinds))]
