"""[3] by texts alone: what is asked of a desk, and read in its answers."""

import unittest
from itertools import product
from math import gcd

from canonwheel.desk import Desk
from canonwheel.errors import NoRule, TooMany
from helpers import PRIMES, divisors_above_one, refusal


def all_texts(length):
    return ["".join(signs) for signs in product("x.", repeat=length) if "x" in signs]


def turns_of(text):
    return [text[by:] + text[:by] for by in range(len(text))]


# Longer wheels: with a partner, barred by parts, by cases, and by the count.
LONGER = [
    "x.....x.....", "xxx.........", "x...x...x...", "x.x.x.......", "xx..xx..xx..", "xxxx.x.x....", "x...x.......",
    "xxxxx.......", "x..x..x..x..x..x..", "x" * 30 + "." * 30, ("x" + "." * 9) * 6, "xxx" + "." * 27 + "xxx" + "." * 27,
    "..xx...xx......xx.", "x" + "." * 59, "x" * 60,
]


class PromiseByTexts(unittest.TestCase):
    def setUp(self):
        self.desk = Desk()

    def ask(self, *commands):
        """The answer to the last of the commands; those ahead of it are done."""
        for command in commands[:-1]:
            self.assertEqual(self.desk.say(command), "ok", command)
        return self.desk.say(commands[-1])

    def filling(self, text):
        """All texts of starts that are told to fill, on a short wheel."""
        self.ask(f"beat one {text}", "names")
        return [other for other in all_texts(len(text)) if self.ask(f"beat other {other}", "fills one other") == "yes"]

    def check_shared_out(self, length):
        """What is kept by one and other has each part of the wheel, the prime powers' ones just once."""
        one = [int(word) for word in self.ask("parts one").split()]
        other = [int(word) for word in self.ask("parts other").split()]
        for number in divisors_above_one(length):
            had = (number in one) + (number in other)
            self.assertGreaterEqual(had, 1)
            if len([prime for prime in PRIMES if number % prime == 0]) == 1:
                self.assertEqual(had, 1)

    def check_kept(self, text):
        """What is kept by one and other fills, and goes on to do so when turned, multiplied and repeated."""
        length = len(text)
        self.assertEqual([self.ask("fills one other"), self.ask("fills other one")], ["yes", "yes"])
        self.check_shared_out(length)
        for by in [1, -1, length // 2, 999999]:
            self.assertEqual(self.ask(f"turn moved one {by}", "fills moved other"), "yes")
            self.assertEqual(self.ask(f"turn moved other {by}", "fills one moved"), "yes")
        for by in [by for by in range(-7, 14) if gcd(by, text.count("x")) == 1]:
            self.assertEqual(self.ask(f"multiply moved one {by}", "fills moved other"), "yes")
        starts = self.ask("show other")
        for times in [times for times in range(1, 4) if length * times <= 60]:
            longer = starts + "." * (length * (times - 1))
            told = self.ask(f"beat longer {longer}", f"repeat moved one {times}", "fills moved longer")
            self.assertEqual(told, "yes")

    def check_sought(self, text):
        self.ask(f"beat one {text}", "names")
        told = self.ask("partner other one")
        if told == "ok":
            self.assertEqual(self.ask("show other")[0], "x")
            self.assertEqual(self.ask("rules one").split()[0], "yes")
            self.check_kept(text)
        elif told == "count":
            self.assertNotEqual(len(text) % text.count("x"), 0)
        elif told == "parts":
            self.assertEqual(self.ask("rules one").split()[0], "no")
        else:
            self.assertRegex(told, r"\Acases [1-9][0-9]*\Z")
            self.assertEqual(self.ask("rules one").split()[0], "yes")
        return told

    def check_made(self, text):
        self.ask(f"beat one {text}", "names")
        if self.ask("rules one") == "yes yes":
            self.assertEqual(self.ask("made other one"), "ok")
            self.check_kept(text)
        else:
            self.assertIs(refusal(self.desk.say, "made other one"), NoRule)

    def test_short_wheels(self):
        for length in range(1, 8):
            for text in all_texts(length):
                self.check_made(text)
                self.assertEqual(self.check_sought(text) == "ok", self.filling(text) != [])

    def test_longer_wheels(self):
        told = []
        for text in LONGER:
            told.append(self.check_sought(text))
            self.check_made(text)
        self.assertEqual({answer.split()[0] for answer in told}, {"ok", "count", "parts", "cases"})

    def test_kinds_are_all_there_are_and_each_once(self):
        for length in range(1, 8):
            for text in all_texts(length):
                found = {max(turns_of(starts)) for starts in self.filling(text)}
                self.assertEqual(self.ask("kinds one"), str(len(found)), text)
        for text in ["xx......", "x...x...", "x.x.....", "xx..xx..", "xxx....."]:
            found = {max(turns_of(starts)) for starts in self.filling(text)}
            self.assertEqual(self.ask("kinds one"), str(len(found)), text)

    def test_no_kinds_where_it_is_barred(self):
        for text in LONGER:
            told = self.check_sought(text)
            if refusal(self.desk.say, "kinds one") is None:
                self.assertEqual(self.ask("kinds one") == "0", told != "ok", text)
            else:
                self.assertIs(refusal(self.desk.say, "kinds one"), TooMany)

    def test_own_turns(self):
        for length in range(1, 9):
            for text in all_texts(length):
                own = int(self.ask(f"beat one {text}", "own one"))
                self.assertEqual(length % own, 0)
                self.assertEqual(self.ask(f"turn moved one {own}", "show moved"), text)
                for by in range(1, own):
                    self.assertNotEqual(self.ask(f"turn moved one {by}", "show moved"), text)


if __name__ == "__main__":
    unittest.main()
