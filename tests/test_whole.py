"""[1], [2] and [3]: what holds for every function, and for partners."""

import unittest
from copy import deepcopy
from math import gcd

from canonwheel.beats import beat_counts, is_partner, made_beat
from canonwheel.cases import sought_partner
from canonwheel.desk import Desk
from canonwheel.errors import WheelError
from canonwheel.lines import line_run, line_step, wheel_window
from canonwheel.mixes import mix_count, sought_mix
from canonwheel.partners import all_partners, partner_kinds
from canonwheel.parts import divisors, has_part, part, parts_had
from canonwheel.rules import first_rule, made_partner, second_rule
from canonwheel.shares import prime_powers, shares
from canonwheel.sums import beat_sum, sum_divided, sum_product
from canonwheel.texts import beat_text, read_beat
from canonwheel.tori import laid_flat, laid_up, torus_partner
from canonwheel.turns import first_turn, multiplied, own_turn, repeated, spread, turned
from helpers import BIG, all_beats, small_partners

# Each call with its arguments; the lists among them are handed in anew for each asking.
CALLS = [
    (made_beat, 8, [9, 3, -8]),
    (made_beat, 8, [0, 1, 3]),
    (beat_counts, 8, [0, 1, 3], [0, 4]),
    (is_partner, 8, [0, 1], [0, 2, 4, 6]),
    (turned, 8, [0, 1, 3]),
    (turned, 8, [0, 1, 3], 0),
    (turned, 8, [0, 1, 3], -BIG),
    (multiplied, 8, [0, 1, 3], 1),
    (multiplied, 8, [0, 1, 3], 5),
    (repeated, 8, [0, 1, 3]),
    (repeated, 8, [0, 1, 3], 1),
    (spread, 8, [0, 1, 3]),
    (spread, 8, [0, 1, 3], 1),
    (own_turn, 8, [0, 2, 4, 6]),
    (first_turn, 8, [0, 1, 3]),
    (first_turn, 8, [1, 2, 4]),
    (beat_sum, []),
    (beat_sum, [0]),
    (beat_sum, [1, 4]),
    (sum_product, [], [2, 3]),
    (sum_product, [2, 3], [1]),
    (sum_product, [1], [2, 3]),
    (sum_product, [-BIG, 0, 5], [0, BIG]),
    (sum_divided, [], [1]),
    (sum_divided, [2, 3], [1]),
    (sum_divided, [2, 3], [0, 0, 1]),
    (sum_divided, [2, 3, 0, -BIG], [5, 0, 1]),
    (divisors, 1),
    (divisors, 60),
    (part, 1),
    (part, 2),
    (part, 12),
    (part, 60),
    (has_part, [0, 1], 2),
    (has_part, [0, 1], 60),
    (parts_had, 12, [0, 2, 4]),
    (parts_had, 60, [7]),
    (shares, 12, [0, 2, 4], [0, 3, 6, 9]),
    (shares, 1, [0], [0]),
    (prime_powers, 1),
    (prime_powers, 60),
    (first_rule, 12, [0, 2, 4]),
    (second_rule, 12, [0, 1, 2, 3, 5, 7]),
    (made_partner, 12, [0, 2, 4]),
    (made_partner, 1, [0]),
    (made_partner, 60, list(range(60))),
    (sought_partner, 12, [0, 2, 4]),
    (sought_partner, 12, [0, 1, 2, 3, 4]),
    (sought_partner, 12, [0, 4]),
    (sought_partner, 12, [0, 1, 2, 3, 5, 7]),
    (sought_partner, 24, [4, 7, 9, 11, 14, 21]),
    (sought_partner, 1, [0]),
    (all_partners, 8, [0, 4]),
    (all_partners, 8, [0, 4, 5]),
    (all_partners, 1, [0]),
    (partner_kinds, 8, [0, 4]),
    (partner_kinds, 8, [0, 4, 5]),
    (partner_kinds, 1, [0]),
    (line_step, [0, 2], 2),
    (line_step, [0, 1, 2], 2),
    (line_run, [0, 2], 2),
    (line_run, [0], 0),
    (line_run, [0, 2, 3], 0),
    (wheel_window, 4, [0, 2], [0, 3]),
    (sought_mix, 8, [[0, 1, 3], [0]]),
    (sought_mix, 1, [[0]]),
    (sought_mix, 5, [[0, 2], [0, 1, 2]]),
    (mix_count, 8, [[0, 1, 3], [0]]),
    (mix_count, 5, [[0, 2], [0, 1, 2]]),
    (torus_partner, (2, 3), [(0, 0), (1, 1)], [(0, 0), (0, 1), (0, 2)]),
    (torus_partner, (2, 2), [(0, 0), (1, 1)], [(0, 0)]),
    (laid_flat, (2, 3), [(0, 1), (0, 2), (1, 0)]),
    (laid_flat, (1, 1), [(0, 0)]),
    (laid_up, (2, 3), [2, 3, 4]),
    (laid_up, (1, 1), [0]),
    (read_beat, "x..x"),
    (read_beat, "x"),
    (beat_text, 4, [0, 3]),
]
REFUSED = [
    (made_beat, 8, [9, 1]),
    (made_beat, 61, [3, 2]),
    (beat_counts, 8, [0, 1], [3, 2]),
    (turned, 8, [3, 2, 3]),
    (multiplied, 8, [0, 4], 2),
    (repeated, 8, [0, 4], 9),
    (spread, 8, [0, 4], 0),
    (sum_divided, [1, 2, 3], [1, 2]),
    (sum_divided, [1, 2, 3], []),
    (has_part, [0, 1], 61),
    (parts_had, 8, [3, 2]),
    (shares, 8, [0, 1], [3, 2]),
    (first_rule, 61, [3, 2]),
    (second_rule, 8, [3, 3]),
    (made_partner, 12, [0, 4]),
    (made_partner, 12, [0, 1, 2, 3, 5, 7]),
    (sought_partner, 57, [33, 40, 47]),
    (sought_partner, 8, [3, 2]),
    (all_partners, 60, [0, 30]),
    (all_partners, 8, [3, 2]),
    (partner_kinds, 60, [0, 30]),
    (partner_kinds, 8, [3, 2]),
    (line_step, [0, 2], 4),
    (line_step, [0, 2, 1], 0),
    (line_run, [0, 2], -1),
    (line_run, [1, 2], 0),
    (wheel_window, 4, [0, 2], [3, 0]),
    (sought_mix, 60, [[5, 27, 46]]),
    (sought_mix, 8, [[0, 1], [3, 2]]),
    (sought_mix, 8, [[0], [0], [1], [1], [2]]),
    (mix_count, 60, [[0, 30], [0, 29]]),
    (mix_count, 8, [[0, 1], 5]),
    (torus_partner, (2, 3), [(0, 0), (1, 1)], [(0, 1), (0, 0)]),
    (torus_partner, (7, 9), [(1, 1), (0, 0)], [[3], 1]),
    (laid_flat, (2, 2), [(0, 0), (1, 1)]),
    (laid_flat, (2, 3), [(1, 1), (0, 0)]),
    (laid_up, (2, 2), [0, 3]),
    (laid_up, (2, 3), [3, 0]),
    (read_beat, ["x", "."]),
    (beat_text, 4, [3, 0]),
]
# Each tells a list of ints; sum_divided two of them.
TELL_INTS = [
    made_beat, beat_counts, turned, multiplied, repeated, spread, first_turn, beat_sum, sum_product, sum_divided,
    divisors, part, parts_had, prime_powers, made_partner, laid_flat, read_beat,
]


def copied(arguments):
    return deepcopy(list(arguments))


def lists_told(told):
    """The lists that an answer is or has in it, at whatever depth."""
    found = [told] if isinstance(told, list) else []
    if isinstance(told, (list, tuple)):
        for value in told:
            found += lists_told(value)
    return found


class ListsAreTheAskersOwn(unittest.TestCase):
    def test_lists_handed_in_stay(self):
        for call, *arguments in CALLS:
            handed = copied(arguments)
            call(*handed)
            with self.subTest(call=call, arguments=arguments):
                self.assertEqual(handed, arguments)

    def test_lists_handed_in_stay_where_refused(self):
        for call, *arguments in REFUSED:
            handed = copied(arguments)
            with self.subTest(call=call, arguments=arguments):
                with self.assertRaises(WheelError):
                    call(*handed)
                self.assertEqual(handed, arguments)

    def test_told_lists_may_be_changed(self):
        for call, *arguments in CALLS:
            handed = copied(arguments)
            told = call(*handed)
            kept = deepcopy(told)
            for values in lists_told(told):
                values[:1] = [77]
                values.append(99)
            with self.subTest(call=call, arguments=arguments):
                self.assertEqual(handed, arguments)
                self.assertEqual(call(*handed), kept)

    def test_handed_lists_may_be_changed(self):
        for call, *arguments in CALLS:
            handed = copied(arguments)
            told = call(*handed)
            kept = deepcopy(told)
            for values in lists_told(handed)[1:]:
                values.reverse()
                values.append(5)
            with self.subTest(call=call, arguments=arguments):
                self.assertEqual(told, kept)
                self.assertEqual(call(*copied(arguments)), kept)

    def test_no_list_is_told_twice(self):
        for call, *arguments in CALLS:
            handed = copied(arguments)
            found = lists_told(call(*handed)) + lists_told(call(*handed)) + lists_told(handed)[1:]
            with self.subTest(call=call, arguments=arguments):
                self.assertEqual(len({id(values) for values in found}), len(found))

    def test_one_list_as_beat_and_starts(self):
        both = [0, 1]
        self.assertEqual(beat_counts(4, both, both), [1, 2, 1, 0])
        self.assertEqual(shares(4, both, both), [(2, True, True), (4, False, False)])
        self.assertIs(is_partner(1, [0], [0]), True)
        self.assertEqual(both, [0, 1])

    def test_one_list_as_each_kind(self):
        both = [0, 1]
        self.assertEqual(sought_mix(4, [both, both]), ("mix", [(0, 0), (0, 2)]))
        self.assertEqual(mix_count(4, [both, both]), 8)
        self.assertEqual(both, [0, 1])

    def test_one_list_on_the_torus(self):
        both = [(0, 0), (0, 1)]
        self.assertIs(torus_partner((2, 2), both, both), False)
        self.assertIs(torus_partner((1, 4), both, both), False)
        self.assertEqual(both, [(0, 0), (0, 1)])

    def test_a_desk_has_its_deeds_behind_it_and_no_other(self):
        desk = Desk()
        desk.say("beat a x...x...")
        kept = [desk.say(command) for command in ("show a", "parts a", "kinds a", "own a")]
        for call, *arguments in CALLS:
            for values in lists_told(call(*copied(arguments))):
                values.clear()
        self.assertEqual([desk.say(command) for command in ("show a", "parts a", "kinds a", "own a")], kept)

    def test_one_list_as_both_sums(self):
        both = [2, -3, 1]
        self.assertEqual(sum_product(both, both), [4, -12, 13, -6, 1])
        self.assertEqual(sum_divided(both, both), ([1], []))
        self.assertEqual(both, [2, -3, 1])

    def test_answers_are_none_the_other_for_a_changed_part(self):
        for number in range(1, 61):
            part(number).reverse()
            part(number).append(1)
            divisors(number).clear()
        self.assertEqual(part(12), [1, 0, -1, 0, 1])
        self.assertEqual(parts_had(12, [0, 6]), [4, 12])
        self.assertEqual(made_partner(12, [0, 6]), [0, 3, 4, 7, 8, 11])


class Kinds(unittest.TestCase):
    def test_lists_of_ints_are_told(self):
        for call, *arguments in CALLS:
            if call not in TELL_INTS:
                continue
            told = lists_told(call(*copied(arguments)))
            self.assertEqual(len(told), 2 if call == sum_divided else 1)
            for numbers in told:
                self.assertIs(type(numbers), list)
                self.assertLessEqual({type(number) for number in numbers}, {int})

    def test_spots_and_texts_are_told(self):
        for spot in laid_up((2, 3), [2, 3, 4]):
            self.assertEqual([type(spot), len(spot), type(spot[0]), type(spot[1])], [tuple, 2, int, int])
        self.assertIs(type(beat_text(4, [0, 3])), str)
        self.assertEqual([type(read_beat("x..x")), type(read_beat("x..x")[0])], [tuple, int])
        self.assertIs(type(Desk().say("names")), str)

    def test_an_int_and_a_truth_are_told(self):
        self.assertIs(type(mix_count(8, [[0, 4]])), int)
        self.assertIs(type(torus_partner((1, 1), [(0, 0)], [(0, 0)])), bool)
        self.assertIs(type(own_turn(8, [0, 4])), int)
        self.assertIs(type(is_partner(8, [0, 4], [0])), bool)


class PartnersAreTold(unittest.TestCase):
    """[3]: what is told as a partner fills the wheel, and where none is told there is none."""

    def test_short_wheels(self):
        having_one = {(length, tuple(beat)) for length, beat, starts in small_partners()}
        for length in range(1, 13):
            for beat in [beat for beat in all_beats(length) if beat[0] == 0]:
                told = sought_partner(length, beat)
                found = all_partners(length, beat)
                self.assertEqual(told[0] == "starts", (length, tuple(beat)) in having_one)
                self.assertEqual(told[0] == "starts", found != [])
                if found:
                    self.assertIn(told[1], found)
                    self.assertIs(first_rule(length, beat), True)
                    self.assertIs(is_partner(length, beat, made_partner(length, beat)), True)

    def test_parts_are_shared_out(self):
        for length, beat in [(8, [0, 4]), (12, [0, 6]), (12, [0, 2, 4]), (20, [0, 10]), (60, [8, 45, 55, 58])]:
            for starts in all_partners(length, beat):
                for number, one, other in shares(length, beat, starts):
                    self.assertTrue(one or other)
                    if number in prime_powers(length):
                        self.assertNotEqual(one, other)

    def test_a_multiplied_beat_keeps_them_all(self):
        for length, beat in [(8, [0, 4]), (12, [0, 6]), (12, [0, 2, 4]), (20, [0, 10]), (60, [8, 45, 55, 58])]:
            for by in [by for by in range(1, length) if gcd(by, len(beat)) == 1]:
                for starts in all_partners(length, beat):
                    self.assertIs(is_partner(length, multiplied(length, beat, by), starts), True)


class PartnersAreKept(unittest.TestCase):
    def setUp(self):
        self.found = small_partners()
        self.found.append((60, [0, 1, 2, 30, 31, 32], list(range(0, 30, 3))))
        self.found.append((60, [0, 12, 24, 36, 48], list(range(12))))

    def test_they_fill_the_wheel(self):
        for length, beat, starts in self.found:
            self.assertEqual(beat_counts(length, beat, starts), [1] * length)
            self.assertIs(is_partner(length, beat, starts), True)

    def test_when_turned(self):
        for length, beat, starts in self.found:
            for by in [1, -1, length // 2, BIG]:
                self.assertIs(is_partner(length, turned(length, beat, by), starts), True)
                self.assertIs(is_partner(length, beat, turned(length, starts, by)), True)

    def test_when_multiplied_by_what_shares_no_divisor_with_its_size(self):
        for length, beat, starts in self.found:
            for by in list(range(-length, length + 1)) + [BIG, -BIG]:
                if gcd(by, len(beat)) == 1:
                    self.assertIs(is_partner(length, multiplied(length, beat, by), starts), True)

    def test_when_repeated(self):
        for length, beat, starts in self.found:
            for times in range(1, min(4, 60 // length) + 1):
                self.assertIs(is_partner(length * times, repeated(length, beat, times), starts), True)

    def test_when_spread(self):
        for length, beat, starts in self.found:
            for times in range(1, min(4, 60 // length) + 1):
                between = [start + step for start in spread(length, starts, times) for step in range(times)]
                self.assertIs(is_partner(length * times, spread(length, beat, times), between), True)


if __name__ == "__main__":
    unittest.main()
