"""[29]: the words of commands, what is refused, and in which order."""

import re
import unittest
from itertools import product
from string import ascii_lowercase

from canonwheel.desk import Desk
from canonwheel.errors import NoBeat, NoDeed, NoName, NoNumber, NoRule, NoText, NoWheel, TooMany, WheelError
from desks import COMMANDS, DeskTest, all_kept, desk_with, full_desk, moved, text_of
from helpers import BIG, refusal

GOOD_NAMES = ["a", "z", "ab", "abcdefgh", "zzzzzzzz", "names", "beat", "x", "xx", "ok"]
NO_NAMES = [
    "", "A", "Z", "aB", "abcdefghi", "a" * 60, "a1", "1", "0", "-1", "a-b", "a_b", "a.", ".", "x.", "a\n", "\n", "a\t",
    "\ta", "\u00e4", "\u00df", "\u0430", "a\u00e4", "\u00aa", "\uff41", "`", "{", "@", "[", "a,", "a'", "\x00",
]
NUMBERS = ["0", "1", "-1", "5", "9", "10", "-10", "100", "99999", "100000", "999999", "-999999", "-100000", "-7"]
NO_NUMBERS = [
    "", "-", "--1", "-0", "00", "01", "-01", "000000", "0000001", "+1", "+0", "1000000", "-1000000", "1234567",
    "9999999", "1.0", "1.", ".5", "1e3", "0x1", "1_0", "1,0", "a", "1a", "a1", "one", "1-", "1-1", "1\n", "\n1", "\t1",
    "1\t", "-\t1", "\u0661", "\u00b2", "\u00bd", "\uff11", "1\u0661", "\u22121", "\u20131", "-00", "0-", "9" * 31,
]
NO_TEXTS = ["", ".", "." * 60, "x" * 61, "X", "x,", "y", "a", "x\n", "1", "x.y", "0"]
NOT_TEXT = [None, 0, 1, -1, BIG, [], ["names"], [["names"]], (), ("names",), {}, {"names": 1}, b"names", ["show", "a"]]
NO_DEEDS = [
    "", " ", "  ", " names", "names ", "  names", "names  ", "Names", "NAMES", "name", "namess", "names a", "names a b",
    "show", "show a b", "show  a", " show a", "show a ", "show\ta", "show\na", "Show a", "SHOW a", "shows a",
    "beat", "beat b", "beat b x x", "beat  b x", "beat b  x", "beat b x ", " beat b x", "beat\tb\tx",
    "turn", "turn b", "turn b a", "turn b a 1 1", "turn b a  1", "turned b a 1",
    "multiply b a", "multiply b a 1 1", "repeat b a", "repeat b a 1 2", "spread b a", "spread b a 1 2", "made",
    "made b", "made b a 1", "drop", "drop a a", "drop a ", "partner", "partner b", "partner b a a", "fills", "fills a",
    "fills a a a", "parts", "parts a a", "rules", "rules a a", "kinds", "kinds a a", "own", "own a a", "keep b x",
    "help", "?", "quit", "a", "x", "1", "show a\n\nnames names", "names\n", "names\t", "\nnames", "b = a",
]


class Deeds(DeskTest):
    def test_what_is_no_text(self):
        for desk in [Desk(), desk_with(a="x", names="x")]:
            for command in NOT_TEXT:
                self.refused(desk, command, NoDeed)

    def test_no_such_command(self):
        for desk in [Desk(), desk_with(a="x", b="x.")]:
            for command in NO_DEEDS:
                self.refused(desk, command, NoDeed)

    def test_each_number_of_words(self):
        desk = desk_with(a="x")
        for deed, words in COMMANDS.items():
            right = len(words.split())
            for number in range(7):
                if number != right:
                    self.refused(desk, " ".join([deed] + ["a"] * number), NoDeed)

    def test_ahead_of_all_words(self):
        desk = full_desk()
        for command in ["show A B", "turn A B", "beat A y 1", "repeat a zz 01 1", "drop", "names A", "Beat A y",
                        "fills a b c", "made new", "partner A"]:
            self.refused(desk, command, NoDeed)

    def test_words_are_cut_at_each_blank(self):
        desk = desk_with(a="x.")
        # A blank at the end cuts off a word of no sign, which is no name, no text and no number.
        self.refused(desk, "show ", NoName)
        self.refused(desk, "beat  x", NoName)
        self.refused(desk, "beat b ", NoText)
        self.refused(desk, "turn b a ", NoNumber)
        self.refused(desk, "fills  a", NoName)
        self.refused(desk, "fills a ", NoName)
        # Other signs that leave a gap are no blanks.
        for gap in ["\t", "\n", "\r", "\x0b", "\x0c", "\u00a0", "\u2003", "\u3000", "_"]:
            self.refused(desk, f"show{gap}a", NoDeed)
            self.refused(desk, f"show a{gap}", NoName)
            self.refused(desk, f"beat b x{gap}", NoText)
            self.refused(desk, f"turn b a 1{gap}", NoNumber)


class Names(DeskTest):
    def test_good_ones(self):
        for name in GOOD_NAMES:
            desk = desk_with(a="xx..")
            for command in [f"beat {name} x...x...", f"turn {name} {name} 1", f"multiply {name} {name} 3",
                            f"repeat {name} {name} 2", f"spread {name} {name} 1", f"made {name} {name}",
                            f"partner {name} {name}"]:
                self.answered(desk, command, "ok")
            for deed in ["show", "parts", "rules", "kinds", "own", "drop"]:
                self.assertIsNone(refusal(desk.say, f"{deed} {name}"))

    def test_each_letter_and_length(self):
        desk = Desk()
        for letter in ascii_lowercase:
            self.answered(desk, f"beat {letter} x", "ok")
            self.answered(desk, f"drop {letter}", "ok")
        for length in range(1, 12):
            command = f"beat {'n' * length} x"
            if length <= 8:
                self.answered(desk, command, "ok")
            else:
                self.refused(desk, command, NoName)

    def test_each_other_sign(self):
        desk = Desk()
        for number in range(256):
            if chr(number) not in ascii_lowercase and chr(number) != " ":
                for name in [chr(number), "a" + chr(number), chr(number) + "a"]:
                    self.assertIs(refusal(desk.say, f"beat {name} x"), NoName, name)
        self.answered(desk, "names", "")

    def test_no_names(self):
        desk = desk_with(a="x...", b="x...")
        for name in NO_NAMES:
            for deed, words in COMMANDS.items():
                for place, word in enumerate(words.split()):
                    if word in ("NEW", "ONE", "OTHER"):
                        good = {"NEW": "b", "ONE": "a", "OTHER": "b", "TEXT": "x", "BY": "1"}
                        told = [good[other] for other in words.split()]
                        told[place] = name
                        self.refused(desk, " ".join([deed, *told]), NoName)

    def test_names_by_which_none_is_kept(self):
        desk = desk_with(a="x...", b="x...")
        for command in ["turn b zz 1", "multiply b zz 1", "repeat b zz 1", "spread b zz 1", "made b zz", "drop zz",
                        "partner b zz", "show zz", "fills zz a", "fills a zz", "fills zz zz", "parts zz", "rules zz",
                        "kinds zz", "own zz", "turn zz zz 1", "made zz zz", "partner zz zz", "show x", "show beat"]:
            self.refused(desk, command, NoName)

    def test_on_an_empty_desk(self):
        desk = Desk()
        for deed, words in COMMANDS.items():
            if "ONE" in words.split():
                told = {"NEW": "b", "ONE": "a", "OTHER": "b", "BY": "1"}
                self.refused(desk, " ".join([deed, *[told[word] for word in words.split()]]), NoName)
        self.answered(desk, "names", "")


class Texts(DeskTest):
    def test_no_texts(self):
        for desk in [Desk(), desk_with(a="x..")]:
            for text in NO_TEXTS:
                self.refused(desk, f"beat a {text}", NoText)
                self.refused(desk, f"beat b {text}", NoText)

    def test_lengths(self):
        desk = Desk()
        self.answered(desk, "beat a " + "x" * 60, "ok")
        self.refused(desk, "beat a " + "x" * 61, NoText)
        self.refused(desk, "beat a " + "x" * 1000, NoText)


class Numbers(DeskTest):
    def test_well_written(self):
        desk = desk_with(a=(7, [0, 1, 3]))
        for word in NUMBERS:
            self.answered(desk, f"turn b a {word}", "ok")
            self.answered(desk, "show b", moved(7, [0, 1, 3], int(word)))

    def test_ill_written(self):
        desk = desk_with(a=(7, [0, 1, 3]), b="x")
        for word in NO_NUMBERS:
            for deed in ["turn", "multiply", "repeat", "spread"]:
                for name in ["a", "b", "c"]:
                    self.refused(desk, f"{deed} {name} a {word}", NoNumber)

    def test_each_word_of_these_signs(self):
        desk = desk_with(a=(59, [0, 1, 3]))
        for size in range(5):
            for signs in product("-019+a", repeat=size):
                word = "".join(signs)
                if re.fullmatch("0|-?[1-9][0-9]{0,5}", word):
                    self.answered(desk, f"turn b a {word}", "ok")
                    self.answered(desk, "show b", moved(59, [0, 1, 3], int(word)))
                else:
                    self.assertIs(refusal(desk.say, f"turn b a {word}"), NoNumber, word)

    def test_each_number_of_figures(self):
        desk = desk_with(a=(59, [0, 1, 3]))
        for size in range(1, 12):
            for sign, figure in product(["", "-"], "19"):
                word = sign + figure * size
                if size <= 6:
                    self.answered(desk, f"turn b a {word}", "ok")
                    self.answered(desk, "show b", moved(59, [0, 1, 3], int(word)))
                else:
                    self.refused(desk, f"turn b a {word}", NoNumber)


class OrderOfRefusals(DeskTest):
    def test_word_by_word_from_the_left(self):
        desk = desk_with(a="x...", bad=(12, [0, 4]), long="x....")
        for command, asked in [
            ("beat A y", NoName), ("beat a y", NoText),
            ("turn A zz 01", NoName), ("turn a zz 01", NoName), ("turn a A 01", NoName), ("turn zz a 01", NoNumber),
            ("multiply A a 01", NoName), ("multiply a zz x", NoName), ("multiply a a x", NoNumber),
            ("repeat A a 0", NoName), ("repeat b zz 0", NoName), ("repeat b a 00", NoNumber), ("repeat b a 0", NoWheel),
            ("spread A a 0", NoName), ("spread b zz 0", NoName), ("spread b a -0", NoNumber),
            ("spread b a 16", NoWheel),
            ("made A bad", NoName), ("made b zz", NoName), ("made b bad", NoRule), ("partner A bad", NoName),
            ("fills A zz", NoName), ("fills zz long", NoName), ("fills a zz", NoName), ("fills a A", NoName),
            ("fills a long", NoWheel),
        ]:
            self.refused(desk, command, asked)

    def test_too_many_at_last(self):
        desk = full_desk(28)
        for told in [("bad", (12, [0, 4])), ("far", (57, [33, 40, 47]))]:
            desk.say(f"beat {told[0]} {text_of(*told[1])}")
        self.assertEqual(len(all_kept(desk)), 30)
        for command, asked in [
            ("new", NoDeed), ("beat new", NoDeed), ("beat NEW x", NoName), ("beat new y", NoText),
            ("beat new x", TooMany),
            ("turn NEW a 1", NoName), ("turn new no 1", NoName), ("turn new a 01", NoNumber), ("turn new a 1", TooMany),
            ("multiply new a 01", NoNumber), ("multiply new bad 3", NoBeat), ("multiply new bad 5", TooMany),
            ("repeat new a 01", NoNumber), ("repeat new a 0", NoWheel), ("repeat new a 16", NoWheel),
            ("repeat new a 15", TooMany), ("spread new a 0", NoWheel), ("spread new a 16", NoWheel),
            ("spread new a 15", TooMany), ("made new no", NoName), ("made new bad", NoRule), ("made new a", TooMany),
            ("partner new no", NoName), ("partner new far", TooMany), ("partner new a", TooMany),
            ("fills a bad", NoWheel), ("show new", NoName),
        ]:
            self.refused(desk, command, asked)

    def test_each_refusal_is_of_one_class(self):
        desk = desk_with(a="x...", b="x..", bad=(12, [0, 4]), far=(60, [0, 30]))
        told = {}
        for command in ["nothing", "show A", "beat a y", "turn a a 01", "fills a b", "multiply a far 2", "made a bad",
                        "kinds far"]:
            told[command] = refusal(desk.say, command)
        self.assertEqual(list(told.values()), [NoDeed, NoName, NoText, NoNumber, NoWheel, NoBeat, NoRule, TooMany])
        for asked in told.values():
            self.assertTrue(issubclass(asked, WheelError) and issubclass(asked, ValueError))


class ThirtyNames(DeskTest):
    def test_the_thirty_first_name(self):
        desk = full_desk(29)
        self.answered(desk, "beat last x", "ok")
        self.assertEqual(len(all_kept(desk)), 30)
        self.refused(desk, "beat new x", TooMany)

    def test_by_each_deed(self):
        desk = full_desk()
        for command in ["beat new x", "turn new a 1", "multiply new a 1", "repeat new a 1", "spread new a 1",
                        "made new a", "partner new a"]:
            self.refused(desk, command, TooMany)

    def test_by_a_name_that_is_kept(self):
        desk = full_desk()
        for command in ["beat a x...x...", "turn b a 1", "multiply c a 1", "repeat d a 2", "spread e a 2", "made f a",
                        "partner g a", "turn a a 1", "partner a a"]:
            self.answered(desk, command, "ok")
        self.assertEqual(len(all_kept(desk)), 30)

    def test_a_partner_that_is_barred_is_no_new_beat(self):
        desk = full_desk(27)
        for name, told in [("one", (3, [0, 1])), ("two", (12, [0, 4])), ("three", (12, [0, 1, 2, 3, 5, 7]))]:
            desk.say(f"beat {name} {text_of(*told)}")
        self.assertEqual(len(all_kept(desk)), 30)
        before = all_kept(desk)
        for name, asked in [("one", "count"), ("two", "parts"), ("three", "cases 1")]:
            self.answered(desk, f"partner new {name}", asked)
        self.assertEqual(all_kept(desk), before)

    def test_room_again_where_one_is_dropped(self):
        desk = full_desk()
        self.refused(desk, "beat new x", TooMany)
        self.answered(desk, "drop c", "ok")
        self.answered(desk, "beat new x", "ok")
        self.refused(desk, "beat c x", TooMany)
        self.answered(desk, "drop new", "ok")
        self.answered(desk, "turn c a 2", "ok")
        self.answered(desk, "show c", "..x.")
        self.assertEqual(len(all_kept(desk)), 30)


if __name__ == "__main__":
    unittest.main()
