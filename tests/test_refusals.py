"""[4]: lengths and beats that are refused, by each function that takes them."""

import unittest

from canonwheel.beats import beat_counts, is_partner, made_beat
from canonwheel.cases import sought_partner
from canonwheel.errors import NoBeat, NoWheel
from canonwheel.lines import wheel_window
from canonwheel.mixes import mix_count, sought_mix
from canonwheel.partners import all_partners, partner_kinds
from canonwheel.parts import parts_had
from canonwheel.rules import first_rule, made_partner, second_rule
from canonwheel.shares import prime_powers, shares
from canonwheel.texts import beat_text
from canonwheel.tori import laid_up
from canonwheel.turns import first_turn, multiplied, own_turn, repeated, spread, turned
from helpers import BIG, refusal

# Each takes a length and a beat; where starts are taken, the beat stands as each of the two.
TAKE_A_BEAT = {
    "beat_counts, beat": lambda length, beat: beat_counts(length, beat, [0]),
    "beat_counts, starts": lambda length, beat: beat_counts(length, [0], beat),
    "is_partner, beat": lambda length, beat: is_partner(length, beat, [0]),
    "is_partner, starts": lambda length, beat: is_partner(length, [0], beat),
    "turned": lambda length, beat: turned(length, beat),
    "turned by 0": lambda length, beat: turned(length, beat, 0),
    "multiplied": lambda length, beat: multiplied(length, beat, 1),
    "multiplied by 0": lambda length, beat: multiplied(length, beat, 0),
    "repeated": lambda length, beat: repeated(length, beat, 1),
    "repeated 0 times": lambda length, beat: repeated(length, beat, 0),
    "repeated very often": lambda length, beat: repeated(length, beat, 61),
    "spread": lambda length, beat: spread(length, beat, 1),
    "spread 0 times": lambda length, beat: spread(length, beat, 0),
    "spread very often": lambda length, beat: spread(length, beat, 61),
    "own_turn": own_turn,
    "first_turn": first_turn,
    "parts_had": parts_had,
    "shares, beat": lambda length, beat: shares(length, beat, [0]),
    "shares, starts": lambda length, beat: shares(length, [0], beat),
    "first_rule": first_rule,
    "second_rule": second_rule,
    "made_partner": made_partner,
    "sought_partner": sought_partner,
    "all_partners": all_partners,
    "partner_kinds": partner_kinds,
    "wheel_window, beat": lambda length, beat: wheel_window(length, beat, [0]),
    "wheel_window, starts": lambda length, beat: wheel_window(length, [0], beat),
    "sought_mix": lambda length, beat: sought_mix(length, [beat]),
    "sought_mix, last": lambda length, beat: sought_mix(length, [[0], [0], [0], beat]),
    "mix_count": lambda length, beat: mix_count(length, [beat]),
    "mix_count, last": lambda length, beat: mix_count(length, [[0], [0], [0], beat]),
    "laid_up": lambda length, beat: laid_up((length, 1), beat),
    "beat_text": beat_text,
}
TAKE_A_LENGTH = dict(TAKE_A_BEAT)
TAKE_A_LENGTH["made_beat"] = made_beat
TAKE_A_LENGTH["beat_counts, both"] = lambda length, beat: beat_counts(length, beat, beat)
TAKE_A_LENGTH["is_partner, both"] = lambda length, beat: is_partner(length, beat, beat)
TAKE_A_LENGTH["shares, both"] = lambda length, beat: shares(length, beat, beat)
TAKE_A_LENGTH["wheel_window, both"] = lambda length, beat: wheel_window(length, beat, beat)
TAKE_A_LENGTH["sought_mix, kinds"] = sought_mix
TAKE_A_LENGTH["mix_count, kinds"] = mix_count
TAKE_A_LENGTH["prime_powers"] = lambda length, beat: prime_powers(length)

NO_LENGTHS = [0, -1, -2, -59, -60, -61, 61, 62, 120, 1000, BIG, -BIG]
ANY_LISTS = [[], [0], [0, 1], [0, 0], [1, 0], [-1], [60], [61], [BIG], ["x"], [None, "y"], [[0]], [(0, 1), 2]]


def lists_that_are_no_beat(length):
    last = length - 1
    lists = [[], [-1], [length], [-BIG], [BIG], [-length], [0, 0], [last, last], [0, length], [-1, 0]]
    if length >= 3:
        lists += [[1, 0], [last, 0], [0, 2, 1], [1, 0, 2], [0, 1, 1], [0, 0, 1], [0, 1, 0]]
        lists += [[-1, 0, 1], [0, -1, 1], [0, 1, -1], [length, 0, 1], [0, length, 1], [0, 1, length]]
    if length >= 5:
        lists += [[0, 1, 2, 2, 4], [0, 1, 3, 2, 4], [4, 3, 2, 1, 0], [0, 1, 2, 3, length + 1], [0, BIG, 3]]
    return lists


class Refusals(unittest.TestCase):
    def test_no_wheel_whatever_the_list(self):
        for name, call in TAKE_A_LENGTH.items():
            for length in NO_LENGTHS:
                for numbers in ANY_LISTS:
                    with self.subTest(name=name, length=length, numbers=numbers):
                        self.assertIs(refusal(call, length, list(numbers)), NoWheel)

    def test_no_beat_next(self):
        for name, call in TAKE_A_BEAT.items():
            for length in [1, 2, 3, 5, 8, 31, 59, 60]:
                for numbers in lists_that_are_no_beat(length):
                    with self.subTest(name=name, length=length, numbers=numbers):
                        self.assertIs(refusal(call, length, list(numbers)), NoBeat)

    def test_two_lists_that_are_no_beats(self):
        for call in [beat_counts, is_partner, shares, wheel_window]:
            self.assertIs(refusal(call, 4, [], [4]), NoBeat)
            self.assertIs(refusal(call, 61, [], [4]), NoWheel)

    def test_lengths_at_the_edges_are_taken(self):
        for length in [1, 60]:
            whole = list(range(length))
            self.assertEqual(made_beat(length, whole), whole)
            self.assertEqual(beat_counts(length, whole, [0]), [1] * length)
            self.assertIs(is_partner(length, [0], whole), True)
            self.assertEqual(turned(length, whole), whole)
            self.assertEqual(turned(length, [length - 1]), [0])
            self.assertEqual(multiplied(length, whole, -1), whole)
            self.assertEqual(repeated(length, [0], 1), [0])
            self.assertEqual(spread(length, [length - 1], 1), [length - 1])
            self.assertEqual(own_turn(length, [0]), length)
            self.assertEqual(first_turn(length, [length - 1]), [0])
            self.assertEqual(parts_had(length, [length - 1]), [])
            self.assertEqual(len(shares(length, whole, [length - 1])), length // 60 * 11)
            self.assertEqual(len(prime_powers(length)), length // 60 * 4)
            self.assertIs(first_rule(length, whole), True)
            self.assertIs(second_rule(length, whole), True)
            self.assertEqual(made_partner(length, [length - 1]), whole)
            self.assertEqual(sought_partner(length, [length - 1]), ("starts", whole))
            self.assertEqual(all_partners(length, whole), [[0]])
            self.assertEqual(partner_kinds(length, [length - 1]), [whole])
            self.assertEqual(wheel_window(length, [0], whole), 0)
            self.assertEqual(sought_mix(length, [whole]), ("mix", [(0, 0)]))
            self.assertEqual(mix_count(length, [[length - 1]]), 1)
            self.assertEqual(laid_up((length, 1), [length - 1]), [(length - 1, 0)])
            self.assertEqual(beat_text(length, whole), "x" * length)


if __name__ == "__main__":
    unittest.main()
