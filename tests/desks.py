"""What the tests of the desk draw on."""

import unittest
from string import ascii_lowercase

from canonwheel.desk import Desk
from helpers import refusal

# The words behind each command's first one.
COMMANDS = {
    "beat": "NEW TEXT", "turn": "NEW ONE BY", "multiply": "NEW ONE BY", "repeat": "NEW ONE BY", "spread": "NEW ONE BY",
    "made": "NEW ONE", "drop": "ONE", "partner": "NEW ONE", "show": "ONE", "fills": "ONE OTHER", "parts": "ONE",
    "rules": "ONE", "kinds": "ONE", "own": "ONE", "names": "",
}


def text_of(length, places):
    return "".join("x" if place in places else "." for place in range(length))


def desk_with(**kept):
    """A desk that keeps beats by names, each told as a text or as a length and its places."""
    desk = Desk()
    for name, told in kept.items():
        text = told if isinstance(told, str) else text_of(*told)
        assert desk.say(f"beat {name} {text}") == "ok"
    return desk


def full_desk(number=30):
    """A desk that keeps so many beats, a to z and then za, zb and so on."""
    names = list(ascii_lowercase) + ["z" + letter for letter in ascii_lowercase]
    return desk_with(**{name: "x..." for name in names[:number]})


def all_kept(desk):
    return {name: desk.say("show " + name) for name in desk.say("names").split(" ") if name}


def moved(length, places, by):
    return text_of(length, {(place + by) % length for place in places})


class DeskTest(unittest.TestCase):
    def refused(self, desk, command, asked):
        """The command is refused so, twice alike, and leaves all as it was."""
        before = all_kept(desk)
        for asking in range(2):
            with self.subTest(command=command):
                self.assertIs(refusal(desk.say, command), asked)
                self.assertEqual(all_kept(desk), before)

    def answered(self, desk, command, asked):
        told = desk.say(command)
        self.assertEqual(told, asked, command)
        self.assertIs(type(told), str)
