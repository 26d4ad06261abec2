"""[29]: the desk, its commands and their answers."""

import unittest
from itertools import product
from random import Random

from canonwheel.desk import Desk
from canonwheel.errors import NoBeat, NoName, NoRule, NoWheel, TooMany
from desks import DeskTest, all_kept, desk_with, full_desk, moved, text_of
from helpers import divisors_above_one, refusal, vanishes


class KeepingDeeds(DeskTest):
    def test_beat(self):
        desk = Desk()
        for name, text in [("a", "x"), ("b", ".x"), ("abcdefgh", "x" * 60), ("c", "." * 59 + "x"), ("names", "x..x")]:
            self.answered(desk, f"beat {name} {text}", "ok")
            self.answered(desk, f"show {name}", text)
        self.answered(desk, "beat a ..x", "ok")
        self.answered(desk, "show a", "..x")
        self.answered(desk, "names", "a abcdefgh b c names")

    def test_each_length(self):
        desk = Desk()
        for length in range(1, 61):
            text = text_of(length, {0, length // 2, length - 1})
            self.answered(desk, f"beat a {text}", "ok")
            self.answered(desk, "show a", text)

    def test_turn(self):
        desk = desk_with(a=(8, [0, 1, 3]))
        for by in [0, 1, 2, 7, 8, 9, -1, -8, -9, 999999, -999999, 100000]:
            self.answered(desk, f"turn b a {by}", "ok")
            self.answered(desk, "show b", moved(8, [0, 1, 3], by))
        self.answered(desk, "show a", "xx.x....")

    def test_multiply(self):
        desk = desk_with(a=(8, [0, 1, 3]))
        for by in [1, 3, 5, 7, 9, -1, -3, 999999, -999999]:
            self.answered(desk, f"multiply b a {by}", "ok")
            self.answered(desk, "show b", text_of(8, {place * by % 8 for place in [0, 1, 3]}))
        self.answered(desk, "multiply b a 2", "ok")
        self.answered(desk, "show b", "x.x...x.")
        self.refused(desk, "multiply b a 0", NoBeat)
        self.refused(desk, "multiply b a 4", NoBeat)
        self.refused(desk, "multiply a a 8", NoBeat)
        self.refused(desk, "multiply c a -8", NoBeat)

    def test_repeat(self):
        desk = desk_with(a="x.xx")
        for times in [1, 2, 3, 14, 15]:
            self.answered(desk, f"repeat b a {times}", "ok")
            self.answered(desk, "show b", "x.xx" * times)
        for times in [0, -1, -15, 16, 60, 999999, -999999]:
            self.refused(desk, f"repeat b a {times}", NoWheel)
            self.refused(desk, f"repeat c a {times}", NoWheel)

    def test_spread(self):
        desk = desk_with(a="x.xx")
        for times in [1, 2, 3, 14, 15]:
            self.answered(desk, f"spread b a {times}", "ok")
            between = "." * (times - 1)
            self.answered(desk, "show b", "".join(sign + between for sign in "x.xx"))
        for times in [0, -1, -15, 16, 60, 999999, -999999]:
            self.refused(desk, f"spread b a {times}", NoWheel)
            self.refused(desk, f"spread c a {times}", NoWheel)

    def test_the_longer_wheel_is_kept(self):
        desk = desk_with(a="x.", b="x.x.", c="xx..")
        desk.say("repeat d a 2")
        self.answered(desk, "fills d c", "yes")
        self.answered(desk, "fills d b", "no")
        desk.say("spread d a 2")
        self.answered(desk, "fills d b", "no")
        self.answered(desk, "own d", "4")
        self.answered(desk, "own b", "2")
        self.refused(desk, "fills d a", NoWheel)

    def test_made(self):
        desk = desk_with(a=(12, [0, 6]), one="x", whole="x" * 60, last="." * 59 + "x")
        self.answered(desk, "made b a", "ok")
        self.answered(desk, "show b", text_of(12, [0, 3, 4, 7, 8, 11]))
        self.answered(desk, "made b one", "ok")
        self.answered(desk, "show b", "x")
        self.answered(desk, "made b whole", "ok")
        self.answered(desk, "show b", "x" + "." * 59)
        self.answered(desk, "made b last", "ok")
        self.answered(desk, "show b", "x" * 60)

    def test_made_where_a_rule_fails(self):
        desk = desk_with(a=(12, [0, 4]), b=(12, [0, 1, 2, 3, 5, 7]), c="xxx.", d="x")
        for name in ["a", "b", "c"]:
            self.refused(desk, f"made d {name}", NoRule)
            self.refused(desk, f"made e {name}", NoRule)
            self.refused(desk, f"made {name} {name}", NoRule)

    def test_drop(self):
        desk = desk_with(a="x", b="x.", c="x..")
        self.answered(desk, "drop b", "ok")
        self.answered(desk, "names", "a c")
        self.refused(desk, "drop b", NoName)
        self.refused(desk, "show b", NoName)
        self.answered(desk, "drop a", "ok")
        self.answered(desk, "drop c", "ok")
        self.answered(desk, "names", "")
        self.answered(desk, "beat b xx", "ok")
        self.answered(desk, "show b", "xx")

    def test_a_name_may_stand_for_the_new_beat_and_the_one(self):
        desk = desk_with(a="xx..")
        for command, text in [("turn a a 1", ".xx."), ("turn a a -1", "xx.."), ("multiply a a 3", "x..x"),
                              ("repeat a a 2", "x..xx..x"), ("spread a a 2", "x.....x.x.....x."), ("turn a a 0", None)]:
            self.answered(desk, command, "ok")
            if text is not None:
                self.answered(desk, "show a", text)
        desk = desk_with(a=(12, [0, 6]), b=(12, [0, 6]))
        self.answered(desk, "made a a", "ok")
        self.answered(desk, "show a", text_of(12, [0, 3, 4, 7, 8, 11]))
        self.answered(desk, "partner b b", "ok")
        self.answered(desk, "show b", text_of(12, [0, 1, 2, 3, 4, 5]))
        self.answered(desk, "names", "a b")

    def test_what_is_kept_stays_when_that_which_it_came_of_goes(self):
        desk = desk_with(a="xx......")
        for command in ["turn b a 0", "multiply c a 1", "repeat d a 1", "spread e a 1", "partner f a", "beat a x..."]:
            self.answered(desk, command, "ok")
        self.answered(desk, "drop a", "ok")
        for name in ["b", "c", "d", "e"]:
            self.answered(desk, f"show {name}", "xx......")
            self.answered(desk, f"turn {name} {name} 1", "ok")
        self.answered(desk, "show f", "x.x.x.x.")
        self.assertEqual(set(all_kept(desk).values()), {".xx.....", "x.x.x.x."})

    def test_a_beat_in_the_place_of_one_on_another_wheel(self):
        desk = desk_with(a="x.", b="x..")
        self.answered(desk, "turn b a 1", "ok")
        self.answered(desk, "show b", ".x")
        self.answered(desk, "beat a x...", "ok")
        self.answered(desk, "partner b a", "ok")
        self.answered(desk, "show b", "xxxx")


class Partner(DeskTest):
    def test_kept(self):
        desk = desk_with(a=(8, [1, 5]), b="x")
        self.answered(desk, "partner c a", "ok")
        self.answered(desk, "show c", text_of(8, [0, 1, 2, 7]))
        self.answered(desk, "partner b a", "ok")
        self.answered(desk, "show b", text_of(8, [0, 1, 2, 7]))
        self.answered(desk, "fills a b", "yes")
        self.answered(desk, "show a", text_of(8, [1, 5]))

    def test_on_the_edges(self):
        desk = desk_with(a="x", b="x" * 60, c="." * 59 + "x", d=(60, [0, 30]))
        for name, text in [("a", "x"), ("b", "x" + "." * 59), ("c", "x" * 60), ("d", "x" * 30 + "." * 30)]:
            self.answered(desk, f"partner e {name}", "ok")
            self.answered(desk, "show e", text)

    def test_barred(self):
        for length, beat, asked in [
            (3, [0, 1], "count"), (60, list(range(59)), "count"), (12, [0, 1, 2, 3, 4], "count"), (6, [0, 2], "parts"),
            (12, [0, 4], "parts"), (52, [11, 19], "parts"), (12, [0, 1, 2, 3, 5, 7], "cases 1"),
            (18, [0, 7, 11, 12, 16, 17], "cases 2"), (18, [2, 3, 7, 8, 15, 16], "cases 5"),
            (36, [0, 6, 12, 22, 28, 34], "cases 35"), (60, [3, 7, 18, 29, 41, 52], "cases 1994"),
        ]:
            desk = desk_with(a=(length, beat), b="x..")
            before = all_kept(desk)
            for name in ["a", "b", "c"]:
                self.answered(desk, f"partner {name} a", asked)
                self.assertEqual(all_kept(desk), before)
            self.refused(desk, "show c", NoName)

    def test_too_many_cases(self):
        desk = desk_with(a=(57, [33, 40, 47]), b="x..")
        for name in ["a", "b", "c"]:
            self.refused(desk, f"partner {name} a", TooMany)


class AskingDeeds(DeskTest):
    def test_show(self):
        desk = desk_with(a="x..", show="..x")
        self.answered(desk, "show a", "x..")
        self.answered(desk, "show show", "..x")

    def test_fills(self):
        desk = desk_with(a="xx......", b="x.x.x.x.", c="x...x...", d="xxxx....", e="x......x", one="x")
        for one, other, asked in [
            ("a", "b", "yes"), ("b", "a", "yes"), ("a", "c", "no"), ("c", "d", "yes"), ("d", "c", "yes"),
            ("a", "d", "no"), ("a", "a", "no"), ("e", "b", "yes"), ("b", "e", "yes"), ("one", "one", "yes"),
        ]:
            self.answered(desk, f"fills {one} {other}", asked)

    def test_fills_on_wheels_of_unlike_lengths(self):
        desk = desk_with(a="x.x.", b="xx", c="x", d="x" * 60, e="xx..")
        for one, other in product("abcde", repeat=2):
            if {one, other} <= {"a", "e"} or one == other:
                self.assertIsNone(refusal(desk.say, f"fills {one} {other}"))
            else:
                self.refused(desk, f"fills {one} {other}", NoWheel)

    def test_parts(self):
        desk = desk_with(a=(12, [0, 6]), b=(12, [7]), c="x", d="x" * 60, e=(12, [0, 1]))
        self.answered(desk, "parts a", "4 12")
        self.answered(desk, "parts b", "")
        self.answered(desk, "parts c", "")
        self.answered(desk, "parts d", "2 3 4 5 6 10 12 15 20 30 60")
        self.answered(desk, "parts e", "2")

    def test_parts_of_chosen_beats(self):
        chance = Random(12)
        for asking in range(60):
            length = chance.choice([8, 12, 18, 24, 30, 60])
            beat = sorted(chance.sample(range(length), chance.choice([2, 3, 4, 6])))
            had = [str(number) for number in divisors_above_one(length) if vanishes(beat, number)]
            self.answered(desk_with(a=(length, beat)), "parts a", " ".join(had))

    def test_rules(self):
        no_no = (18, [0, 1, 2, 4, 5, 6, 7, 8, 9, 13, 14, 15])
        desk = desk_with(a=(12, [0, 6]), b=(12, [0, 1, 2, 3, 5, 7]), c=(12, [0, 4]), d=no_no, e="x")
        for name, asked in [("a", "yes yes"), ("b", "yes no"), ("c", "no yes"), ("d", "no no"), ("e", "yes yes")]:
            self.answered(desk, f"rules {name}", asked)

    def test_kinds(self):
        for told, asked in [
            ("x", "1"), ((6, [0, 3]), "2"), ((8, [0, 4]), "2"), ((4, [0, 1]), "1"), ((12, [0, 4]), "0"),
            ((59, [0, 8]), "0"), ((12, [0, 1, 2, 3, 5, 7]), "0"), ("x" * 60, "1"), ((60, [7]), "1"),
        ]:
            self.answered(desk_with(a=told), "kinds a", asked)

    def test_kinds_are_counted_not_partners(self):
        # Of 512 partners that have 0, each kind has as many as its places, or fewer where it turns into itself.
        starts = []
        for chosen in product([0, 1], repeat=10):
            places = {place + 10 * half for place, half in enumerate(chosen)}
            starts.append(min(tuple(sorted((place + by) % 20 for place in places)) for by in range(20)))
        self.answered(desk_with(a=(20, [0, 10])), "kinds a", str(len(set(starts))))

    def test_too_many_cases_for_kinds(self):
        desk = desk_with(a=(60, [0, 30]), b=(52, [11, 19]))
        self.refused(desk, "kinds a", TooMany)
        self.refused(desk, "kinds b", TooMany)

    def test_own(self):
        for told, asked in [("x", "1"), ("x.", "2"), ("xx", "1"), ("x.x.", "2"), (".x.x.x.x", "2"), ("x..", "3"),
                            ("x" * 60, "1"), ((60, [59]), "60"), ((60, [0, 30]), "30")]:
            self.answered(desk_with(a=told), "own a", asked)

    def test_names(self):
        desk = Desk()
        self.answered(desk, "names", "")
        kept = []
        for name in ["m", "b", "zz", "a", "ab", "z", "aa", "names", "abcdefgh", "b"]:
            desk.say(f"beat {name} x")
            kept = sorted({name, *kept})
            self.answered(desk, "names", " ".join(kept))
        desk.say("drop b")
        self.answered(desk, "names", "a aa ab abcdefgh m names z zz")

    def test_asking_changes_nothing(self):
        desk = desk_with(a="x...x...", b="xxxx....")
        before = all_kept(desk)
        for command in ["show a", "fills a b", "parts a", "rules a", "kinds a", "own a", "names"]:
            first = desk.say(command)
            self.assertEqual(desk.say(command), first)
            self.assertEqual(all_kept(desk), before)


class TwoDesks(DeskTest):
    def test_beside_each_other(self):
        one, other = Desk(), Desk()
        self.answered(one, "beat a x.", "ok")
        self.answered(other, "names", "")
        self.refused(other, "show a", NoName)
        self.answered(other, "beat a ..x", "ok")
        self.answered(other, "beat b x", "ok")
        self.answered(one, "show a", "x.")
        self.answered(one, "names", "a")
        self.answered(one, "drop a", "ok")
        self.answered(other, "show a", "..x")
        self.answered(Desk(), "names", "")

    def test_each_has_room_of_its_own(self):
        one, other = full_desk(), Desk()
        self.refused(one, "beat new x", TooMany)
        self.answered(other, "beat new x", "ok")
        self.refused(one, "show new", NoName)

    def test_the_same_deeds_the_same_answers(self):
        commands = ["beat a x...x...", "partner b a", "made c a", "fills a c", "turn a a 3", "show a", "kinds a"]
        one, other = Desk(), Desk()
        self.assertEqual([one.say(command) for command in commands], [other.say(command) for command in commands])
        self.assertEqual(all_kept(one), all_kept(other))

    def test_by_name(self):
        self.assertEqual(Desk().say(command="names"), "")


if __name__ == "__main__":
    unittest.main()
