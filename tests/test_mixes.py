"""[25]: beats of several kinds that fill a wheel together."""

import unittest
from itertools import combinations, islice
from random import Random

from canonwheel.beats import beat_counts
from canonwheel.cases import sought_partner
from canonwheel.errors import NoBeat, NoWheel, TooMany
from canonwheel.mixes import mix_count, sought_mix
from canonwheel.partners import partner_kinds
from canonwheel.turns import own_turn
from helpers import BIG, all_beats, mix_cases, mix_fall, mix_fills, refusal

# A wheel, its kinds, the mix that is come to first, and how many there are.
MIXES = [
    (1, [[0]], [(0, 0)], 1),
    (1, [[0], [0]], [(0, 0)], 2),
    (1, [[0], [0], [0], [0]], [(0, 0)], 4),
    (2, [[0, 1]], [(0, 0)], 2),
    (2, [[1], [0]], [(0, 0), (0, 1)], 4),
    (3, [[0], [0, 1]], [(0, 0), (0, 1), (0, 2)], 4),
    (3, [[0, 1], [0]], [(0, 0), (1, 2)], 4),
    (3, [[0, 1], [2]], [(0, 0), (1, 0)], 4),
    (4, [[0, 2]], [(0, 0), (0, 1)], 4),
    (4, [[0, 1], [0, 2]], [(0, 0), (0, 2)], 6),
    (4, [[0, 1, 2, 3]], [(0, 0)], 4),
    (5, [[1, 2], [0, 1, 4]], [(0, 4), (1, 3)], 5),
    (5, [[0, 1, 2, 3], [0, 2], [4]], [(0, 0), (2, 0)], None),
    (6, [[0, 3], [0, 1, 2]], [(0, 0), (0, 1), (0, 2)], None),
    (8, [[0, 1, 3], [0]], [(0, 0), (0, 4), (1, 2), (1, 6)], 13),
    (60, [[59]], [(0, start) for start in range(60)], 1),
    (60, [[0, 1], [0, 30]], [(0, start) for start in range(0, 60, 2)], None),
    (60, [list(range(60))], [(0, 0)], 60),
    (60, [list(range(59)), [59]], [(0, 0), (1, 0)], None),
]
PAPERS = [
    (3, [[0, 1]], [
        (0, [("row", 1), ("row", 2)]),
        (2, [("twice", 0), ("twice", 1)]),
        (1, [("twice", 2), ("twice", 0)]),
    ]),
    (5, [[0, 2]], [
        (0, [("row", 1), ("row", 4)]),
        (1, [("row", 2), ("row", 3)]),
        (4, [("twice", 1), ("twice", 2)]),
        (3, [("twice", 0), ("twice", 1)]),
        (1, [("twice", 3), ("row", 5)]),
        (2, [("twice", 4), ("twice", 0)]),
    ]),
    (4, [[1, 2, 3], [0, 1, 2]], [
        (0, [("row", 1), ("row", 2), ("row", 3), ("row", 4), ("row", 5), ("row", 6)]),
        (3, [("twice", 0), ("twice", 0), ("twice", 1), ("twice", 0), ("twice", 0), ("twice", 1)]),
        (2, [("twice", 0), ("twice", 1), ("twice", 0), ("twice", 0), ("twice", 1), ("twice", 0)]),
        (1, [("twice", 2), ("twice", 0), ("twice", 0), ("twice", 2), ("twice", 0), ("twice", 0)]),
        (3, [("twice", 0), ("twice", 0), ("twice", 1), ("twice", 0), ("twice", 0), ("twice", 1)]),
        (2, [("twice", 0), ("twice", 1), ("twice", 0), ("twice", 0), ("twice", 1), ("twice", 0)]),
        (1, [("twice", 2), ("twice", 0), ("twice", 0), ("twice", 2), ("twice", 0), ("twice", 0)]),
    ]),
    (5, [[0, 2], [0, 1, 2]], [
        (0, [("row", 1), ("row", 4), ("row", 6), ("row", 7), ("row", 8)]),
        (1, [("row", 2), ("row", 3), ("twice", 2), ("twice", 0), ("twice", 0)]),
        (4, [("twice", 1), ("twice", 2), ("twice", 0), ("twice", 0), ("twice", 2)]),
        (3, [("twice", 0), ("twice", 1), ("twice", 0), ("twice", 2), ("twice", 1)]),
        (1, [("twice", 3), ("row", 5), ("twice", 3), ("twice", 0), ("twice", 0)]),
        (2, [("twice", 4), ("twice", 0), ("twice", 3), ("twice", 1), ("twice", 0)]),
        (3, [("twice", 0), ("twice", 1), ("twice", 0), ("twice", 2), ("twice", 1)]),
        (2, [("twice", 4), ("twice", 0), ("twice", 4), ("twice", 1), ("twice", 0)]),
        (1, [("twice", 3), ("twice", 4), ("twice", 3), ("twice", 0), ("twice", 0)]),
    ]),
]
# No case fills, and there are 2000 in all, and 2001.
NONE_ENOUGH = [
    (59, [[5, 9, 21, 40]]),
    (25, [[1, 9, 15, 18], [8, 20]]),
    (21, [[1, 2], [3, 8, 11, 17], [10, 17, 19]]),
    (13, [[0, 1, 4, 5, 6, 8, 10, 12], [6, 10], [0, 3, 8], [2, 11]]),
]
NONE_ONE_MORE = [
    (48, [[5, 19, 35, 44]]),
    (30, [[0, 12, 28], [5, 17, 18]]),
    (19, [[5, 11], [0, 4, 12, 13], [8, 16, 17, 18]]),
    (29, [[4, 5, 10, 15, 17], [3, 7, 8, 14, 16, 22], [3, 4, 14], [12, 20, 23, 24, 26]]),
]
# The number of the first case that fills is 2000, and 2001.
LAST_FILLS = [
    (32, [[5, 10, 29], [1, 15]]),
    (48, [[28, 29, 40], [23, 30, 36], [3, 24, 31]]),
    (23, [[0, 18], [8, 9, 11], [8, 16], [5, 6, 8, 11, 15, 17, 21]]),
    (41, [[2, 5, 9, 11, 15, 17, 23, 35, 37, 40], [25, 27], [13, 29, 38], [0, 2]]),
]
NEXT_FILLS = [
    (60, [[5, 27, 46]]),
    (32, [[10, 29], [9, 18, 24, 30]]),
    (40, [[1, 14, 19, 34], [4, 25], [5, 36, 39]]),
    (28, [[2, 4, 8, 10, 14, 19, 21], [10, 16, 18, 27], [3, 14], [5, 17, 22]]),
]
# There are 2000 cases in all, and 2001, so many of them that fill among them.
SOME_ENOUGH = [
    (54, [[10, 15, 20, 25, 36, 41]], 6),
    (27, [[0, 5, 17, 18, 19], [0, 11, 19]], 3),
    (18, [[2, 4, 8, 12, 14, 15, 16], [0, 11, 13, 16], [2, 11]], 854),
    (16, [[8, 13], [14, 15], [1, 3, 5, 13], [2, 5, 6, 8, 10, 12, 13, 15]], 392),
]
SOME_ONE_MORE = [
    (22, [[5, 7, 11, 12], [4, 19]], 24),
    (21, [[2, 12, 13], [13, 15], [3, 4, 6, 7, 11, 20]], 129),
    (22, [[0, 6, 13, 19, 20], [17, 18], [2, 4, 21], [2, 7, 12, 17, 20, 21]], 200),
]


def tried_mixes(length, kinds):
    """How many mixes there are, every set of pairs being tried."""
    pairs = [(kind, start) for kind in range(len(kinds)) for start in range(length)]
    found = 0
    for size in range(1, length + 1):
        found += sum(mix_fills(length, kinds, chosen) for chosen in combinations(pairs, size))
    return found


def counted_mixes(length, kinds):
    """How many mixes there are, pair by pair: each is begun or not wherever it finds its places free."""
    ways = {0: 1}
    for kind in range(len(kinds)):
        for start in range(length):
            places = sum(1 << place for place in mix_fall(length, kinds, [(kind, start)]))
            for filled, number in list(ways.items()):
                if filled & places == 0:
                    ways[filled | places] = ways.get(filled | places, 0) + number
    return ways.get((1 << length) - 1, 0)


def some_kinds(chance, length, most):
    return [sorted(chance.sample(range(length), chance.randint(1, min(5, length)))) for kind in range(most)]


class Mixes(unittest.TestCase):
    def check_mix(self, length, kinds, told):
        """Whether it is a mix in its form: each place comes just once."""
        self.assertEqual([type(told), len(told), told[0]], [tuple, 2, "mix"])
        pairs = told[1]
        self.assertIs(type(pairs), list)
        self.assertEqual(pairs, sorted(pairs))
        for pair in pairs:
            self.assertEqual([type(pair), len(pair), type(pair[0]), type(pair[1])], [tuple, 2, int, int])
            self.assertTrue(0 <= pair[0] < len(kinds) and 0 <= pair[1] < length)
        total = [0] * length
        for kind, beat in enumerate(kinds):
            starts = [start for number, start in pairs if number == kind]
            counts = beat_counts(length, beat, starts) if starts else [0] * length
            total = [one + other for one, other in zip(total, counts)]
        self.assertEqual(total, [1] * length)

    def end_of_rows(self, length, kinds, rows, number, pairs):
        """Reads the row of a case, and all rows that come of it; tells the number of the row behind them."""
        filled = set(mix_fall(length, kinds, pairs))
        self.assertEqual([type(rows[number]), len(rows[number])], [tuple, 2])
        least, answers = rows[number]
        self.assertEqual(least, min(set(range(length)) - filled))
        self.assertEqual([type(least), type(answers)], [int, list])
        asked = [(kind, (least - place) % length) for kind, beat in enumerate(kinds) for place in beat]
        self.assertEqual(len(answers), len(asked))
        after = number + 1
        for pair, answer in zip(asked, answers):
            twice = filled & set(mix_fall(length, kinds, [pair]))
            if twice:
                self.assertEqual(answer, ("twice", min(twice)))
            else:
                self.assertEqual(answer, ("row", after))
                after = self.end_of_rows(length, kinds, rows, after, [*pairs, pair])
            self.assertEqual([type(answer), type(answer[1])], [tuple, int])
        return after

    def check_paper(self, length, kinds, told):
        self.assertEqual([type(told), len(told), told[0], type(told[1])], [tuple, 2, "barred", list])
        self.assertEqual(self.end_of_rows(length, kinds, told[1], 0, []), len(told[1]))

    def check(self, length, kinds):
        """Against the cases, one after the other; tells what the program tells of them."""
        cases = list(islice(mix_cases(length, kinds), 2001))
        found = [pairs for pairs in cases[:2000] if mix_fills(length, kinds, pairs)]
        if len(cases) > 2000:
            self.assertIs(refusal(mix_count, length, kinds), TooMany, (length, kinds))
        else:
            self.assertEqual(mix_count(length, kinds), len(found), (length, kinds))
        if found:
            told = sought_mix(length, kinds)
            self.assertEqual(told, ("mix", sorted(found[0])), (length, kinds))
            self.check_mix(length, kinds, told)
            return "mix"
        if len(cases) > 2000:
            self.assertIs(refusal(sought_mix, length, kinds), TooMany, (length, kinds))
            return "too many"
        self.check_paper(length, kinds, sought_mix(length, kinds))
        return "barred"


class SoughtMix(Mixes):
    def test_some(self):
        for length, kinds, pairs, number in MIXES:
            told = sought_mix(length, kinds)
            self.assertEqual(told, ("mix", pairs), (length, kinds))
            self.check_mix(length, kinds, told)

    def test_the_order_of_kinds_counts(self):
        self.assertEqual(sought_mix(4, [[0, 1], [0, 2]]), ("mix", [(0, 0), (0, 2)]))
        self.assertEqual(sought_mix(4, [[0, 2], [0, 1]]), ("mix", [(0, 0), (0, 1)]))
        self.assertEqual(sought_mix(3, [[0], [0, 1]]), ("mix", [(0, 0), (0, 1), (0, 2)]))
        self.assertEqual(sought_mix(3, [[0, 1], [0]]), ("mix", [(0, 0), (1, 2)]))

    def test_a_kind_goes_on_by_its_places_rising(self):
        self.assertEqual(sought_mix(8, [[1, 5]]), ("mix", [(0, 0), (0, 1), (0, 2), (0, 7)]))
        self.assertEqual(sought_mix(5, [[1, 2], [0, 1, 4]]), ("mix", [(0, 4), (1, 3)]))

    def test_the_first_case_has_no_start(self):
        # With 0 among the starts, [1, 2] would leave place 0 open; here it is begun at 3 first.
        self.assertEqual(sought_partner(4, [1, 2]), ("starts", [0, 2]))
        self.assertEqual(sought_mix(4, [[1, 2]]), ("mix", [(0, 1), (0, 3)]))
        # Where nothing is filled no place comes twice, and the least place that is open is 0.
        for length, kinds, rows in PAPERS:
            row = sought_mix(length, kinds)[1][0]
            self.assertEqual(row[0], 0)
            self.assertEqual([answer[0] for answer in row[1]], ["row"] * sum(len(beat) for beat in kinds))

    def test_papers_written_out(self):
        for length, kinds, rows in PAPERS:
            self.assertEqual(sought_mix(length, kinds), ("barred", rows))
            self.check_paper(length, kinds, ("barred", rows))

    def test_neither_count_nor_parts_bar(self):
        self.check_paper(5, [[0, 1]], sought_mix(5, [[0, 1]]))
        self.check_paper(12, [[0, 4]], sought_mix(12, [[0, 4]]))
        self.assertEqual(sought_partner(5, [0, 1]), ("barred", "count"))
        self.assertEqual(sought_partner(12, [0, 4]), ("barred", "parts"))

    def test_all_kinds_of_short_wheels(self):
        for length in range(1, 5):
            beats = all_beats(length)
            for one in beats:
                self.check(length, [one])
                for other in beats:
                    self.check(length, [one, other])

    def test_one_kind_on_wheels_up_to_eight(self):
        for length in range(5, 9):
            for beat in all_beats(length):
                self.check(length, [beat])

    def test_chosen_kinds(self):
        chance = Random(25)
        told = []
        for most in [1, 2, 3, 4]:
            for asking in range(60):
                length = chance.randint(1, 16)
                told.append(self.check(length, some_kinds(chance, length, most)))
        self.assertGreater(told.count("mix"), 20)
        self.assertGreater(told.count("barred"), 20)

    def test_chosen_kinds_of_longer_wheels(self):
        chance = Random(26)
        told = []
        for asking in range(32):
            length = chance.randint(20, 60)
            kinds = [sorted(chance.sample(range(length), chance.randint(2, length))) for kind in range(asking % 4 + 1)]
            told.append(self.check(length, kinds))
        self.assertGreater(told.count("barred"), 10)

    def test_built_kinds(self):
        # A wheel is cut into beats, each of which is turned: they fill it together.
        chance = Random(27)
        for length in [7, 12, 20, 33, 48, 60]:
            places = chance.sample(range(length), length)
            cut = chance.randint(1, length - 1)
            by = chance.randrange(length)
            kinds = [sorted((place + by) % length for place in share) for share in [places[:cut], places[cut:]]]
            self.assertEqual(self.check(length, kinds), "mix")


class MixCount(Mixes):
    def test_some(self):
        for length, kinds, pairs, number in MIXES:
            if number is not None:
                told = mix_count(length, kinds)
                self.assertEqual(told, number, (length, kinds))
                self.assertIs(type(told), int)

    def test_none(self):
        for length, kinds, rows in PAPERS:
            told = mix_count(length, kinds)
            self.assertEqual(told, 0)
            self.assertIs(type(told), int)

    def test_every_set_tried(self):
        for length in range(1, 5):
            for one in all_beats(length):
                self.assertEqual(mix_count(length, [one]), tried_mixes(length, [one]))
        chance = Random(28)
        for length in range(1, 5):
            for asking in range(12):
                kinds = some_kinds(chance, length, asking % 3 + 1)
                self.assertEqual(mix_count(length, kinds), tried_mixes(length, kinds), (length, kinds))

    def test_counted_pair_by_pair(self):
        chance = Random(29)
        looked_at = 0
        for asking in range(200):
            length = chance.randint(1, 12)
            kinds = some_kinds(chance, length, asking % 4 + 1)
            if refusal(mix_count, length, kinds) is None:
                self.assertEqual(mix_count(length, kinds), counted_mixes(length, kinds), (length, kinds))
                looked_at += 1
            else:
                self.assertEqual(len(list(islice(mix_cases(length, kinds), 2001))), 2001)
        self.assertGreater(looked_at, 100)

    def test_like_kinds_are_told_apart(self):
        # So often each place chooses between them; there are as many cases as sums of these powers.
        for number, last in [(1, 60), (2, 9), (3, 6), (4, 5)]:
            for length in range(1, last + 1):
                self.assertEqual(mix_count(length, [[0]] * number), number ** length)
            if last < 60:
                self.assertIs(refusal(mix_count, last + 1, [[0]] * number), TooMany)
                self.assertEqual(sought_mix(last + 1, [[0]] * number)[0], "mix")

    def test_ones_and_twos_round_the_wheel(self):
        before, now = 1, 3
        for length in range(2, 13):
            self.assertEqual(mix_count(length, [[0], [0, 1]]), now)
            self.assertEqual(mix_count(length, [[0, 1], [0]]), now)
            before, now = now, before + now

    def test_of_one_kind_as_many_as_partners_and_their_turns(self):
        for length in range(1, 13):
            for beat in [beat for beat in all_beats(length) if beat[0] == 0 and len(beat) > 1]:
                turns = [own_turn(length, kind) for kind in partner_kinds(length, beat)]
                self.assertEqual(mix_count(length, [beat]), sum(turns), (length, beat))

    def test_the_order_of_kinds_does_not_count(self):
        for length, kinds, pairs, number in MIXES:
            if number is not None:
                self.assertEqual(mix_count(length, kinds[::-1]), number)


class BoundOfCases(Mixes):
    def test_the_tables(self):
        tables = [(2000, NONE_ENOUGH), (2001, NONE_ONE_MORE), (2000, SOME_ENOUGH), (2001, SOME_ONE_MORE)]
        for size, table in tables:
            for length, kinds, *number in table:
                cases = list(islice(mix_cases(length, kinds), 2002))
                self.assertEqual(len(cases), size)
                self.assertEqual(sum(mix_fills(length, kinds, pairs) for pairs in cases), (number or [0])[0])
        for size, table in [(2000, LAST_FILLS), (2001, NEXT_FILLS)]:
            for length, kinds in table:
                cases = list(islice(mix_cases(length, kinds), size))
                filling = [mix_fills(length, kinds, pairs) for pairs in cases]
                self.assertEqual(filling, [False] * (size - 1) + [True])

    def test_papers_of_2000_rows(self):
        for length, kinds in NONE_ENOUGH:
            told = sought_mix(length, kinds)
            self.assertEqual(len(told[1]), 2000)
            self.check_paper(length, kinds, told)
            self.assertEqual(mix_count(length, kinds), 0)

    def test_no_papers_of_2001_rows(self):
        for length, kinds in NONE_ONE_MORE:
            self.assertIs(refusal(sought_mix, length, kinds), TooMany, (length, kinds))
            self.assertIs(refusal(mix_count, length, kinds), TooMany, (length, kinds))

    def test_the_last_one_fills(self):
        for length, kinds in LAST_FILLS:
            pairs = list(islice(mix_cases(length, kinds), 2000))[-1]
            told = sought_mix(length, kinds)
            self.assertEqual(told, ("mix", sorted(pairs)))
            self.check_mix(length, kinds, told)

    def test_the_next_one_would_fill(self):
        for length, kinds in NEXT_FILLS:
            self.assertIs(refusal(sought_mix, length, kinds), TooMany, (length, kinds))
            self.assertIs(refusal(mix_count, length, kinds), TooMany, (length, kinds))

    def test_counted_up_to_the_bound(self):
        for length, kinds, number in SOME_ENOUGH:
            self.assertEqual(mix_count(length, kinds), number)
            self.assertEqual(counted_mixes(length, kinds), number)
        for length, kinds, number in SOME_ONE_MORE:
            self.assertIs(refusal(mix_count, length, kinds), TooMany, (length, kinds))

    def test_what_is_sought_early_is_told_where_the_count_is_refused(self):
        for length, kinds, number in SOME_ONE_MORE:
            self.assertEqual(self.check(length, kinds), "mix")
        self.assertEqual(sought_mix(60, [[0, 1], [0, 30]])[0], "mix")
        self.assertIs(refusal(mix_count, 60, [[0, 1], [0, 30]]), TooMany)


class Refusals(unittest.TestCase):
    def check(self, length, kinds, asked):
        for call in [sought_mix, mix_count]:
            with self.subTest(call=call, length=length, kinds=kinds):
                self.assertIs(refusal(call, length, kinds), asked)

    def test_one_to_four_kinds(self):
        for number in range(1, 5):
            self.check(4, [[0, 1, 2, 3]] * number, None)
        self.check(4, [], NoBeat)
        for number in [5, 6, 60, 61]:
            self.check(4, [[0, 1, 2, 3]] * number, NoBeat)

    def test_one_of_them_is_no_beat(self):
        wrong = [[], [0, 0], [1, 0], [-1], [4], [0, 4], [0, 2, 1], [0, 1, 1], [BIG], [-BIG]]
        wrong += [0, 3, -1, None, "x", "x...", "", (), (0, 1), {}, {0: 1}, ["x"], [None], [[0]], [(0, 1)], [0, "x"]]
        for beat in wrong:
            self.check(4, [beat], NoBeat)
            for place in range(4):
                kinds = [[0, 1, 2, 3]] * 3
                self.check(4, kinds[:place] + [beat] + kinds[place:], NoBeat)

    def test_no_beat_of_this_wheel(self):
        self.check(5, [[0, 4]], None)
        self.check(4, [[0, 4]], NoBeat)
        self.check(60, [[59], [60]], NoBeat)

    def test_a_beat_is_no_list_of_kinds(self):
        self.check(8, [0, 1, 2], NoBeat)

    def test_no_wheel_ahead_of_it(self):
        for length in [0, -1, -4, 61, 62, BIG, -BIG]:
            for kinds in [[], [[0]], [[]], [[0]] * 5, [[1, 0]], [0, 1], [None], ["x"], [["x"]], [[61]]]:
                self.check(length, kinds, NoWheel)

    def test_no_beat_ahead_of_too_many(self):
        self.check(60, [[0, 30], [0, 29], [1, 0]], NoBeat)
        self.check(60, [[0, 30]] * 5, NoBeat)

    def test_lengths_at_the_edges(self):
        self.assertEqual(mix_count(1, [[0]]), 1)
        self.assertEqual(mix_count(60, [[0]]), 1)

    def test_by_name(self):
        self.assertEqual(sought_mix(length=4, kinds=[[0, 2]]), ("mix", [(0, 0), (0, 1)]))
        self.assertEqual(mix_count(length=4, kinds=[[0, 2]]), 4)


if __name__ == "__main__":
    unittest.main()
