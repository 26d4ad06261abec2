"""Partners sought by cases, and the papers that bar them."""

from canonwheel.beats import check_beat
from canonwheel.errors import TooMany
from canonwheel.rules import first_rule
from canonwheel.turns import turned

MOST_CASES = 2000


# What is laid are pairs (start, places), the places being those on which a beat falls from that start, rising.
# In a mix the kind stands beside the start: ((kind, start), places).
class Case:
    def __init__(self, laid, answers, at):
        self.laid = laid
        # The row of the case that it comes of names its row by a number, known only when it is gone into.
        self.answers = answers
        self.at = at


class Walk:
    """Goes into cases in their order; for each place the ways are the pairs by which a beat may come there."""

    def __init__(self, ways, laid):
        self.ways = ways
        self.waiting = [Case(laid, [None], 0)]
        self.rows = []
        self.gone = 0

    def go_on(self):
        """Goes into the next case, and tells its starts where it fills the wheel, else None."""
        if self.gone == MOST_CASES:
            raise TooMany("no more than 2000 cases are gone into")
        self.gone += 1
        case = self.waiting.pop()
        filled = places_filled(case.laid)
        if len(filled) == len(self.ways):
            return sorted([start for start, places in case.laid])
        case.answers[case.at] = ("row", len(self.rows))
        self.write_row(case.laid, filled)
        return None

    def write_row(self, laid, filled):
        least = min([place for place in range(len(self.ways)) if place not in filled])
        answers = []
        found = []
        for way in self.ways[least]:
            twice = [place for place in way[1] if place in filled]
            if len(twice) > 0:
                answers.append(("twice", twice[0]))
            else:
                found.append(Case(laid + [way], answers, len(answers)))
                answers.append(None)
        self.rows.append((least, answers))
        # All that comes of the first case found is gone into ahead of the second, so the first lies on top.
        self.waiting.extend(found[::-1])


def places_filled(laid):
    filled = {}
    for start, places in laid:
        for place in places:
            filled[place] = True
    return filled


# For each place of the wheel: the starts that bring the beat there, one for each of its places, as pairs to be laid.
def ways_of(length, beat):
    falls = [turned(length, beat, start) for start in range(length)]
    ways = []
    for place in range(length):
        starts = [(place - own) % length for own in beat]
        ways.append([(start, falls[start]) for start in starts])
    return ways


def first_that_fills(walk):
    while len(walk.waiting) > 0:
        found = walk.go_on()
        if found is not None:
            return found
    return None


def all_that_fill(walk):
    fillings = []
    while len(walk.waiting) > 0:
        found = walk.go_on()
        if found is not None:
            fillings.append(found)
    return fillings


def partner_walk(length, beat):
    return Walk(ways_of(length, beat), [(0, beat)])


def count_divides(length, beat):
    check_beat(length, beat)
    return length % len(beat) == 0


def sought_partner(length, beat):
    if not count_divides(length, beat):
        return ("barred", "count")
    if not first_rule(length, beat):
        return ("barred", "parts")
    walk = partner_walk(length, beat)
    starts = first_that_fills(walk)
    if starts is None:
        return ("barred", walk.rows)
    return ("starts", starts)
