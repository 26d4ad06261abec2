"""[29]: many commands, one after the other, against a desk told once more."""

import re
import unittest
from random import Random
from string import ascii_lowercase

from canonwheel.desk import Desk
from canonwheel.errors import NoBeat, NoDeed, NoName, NoNumber, NoText, NoWheel, TooMany
from desks import COMMANDS, DeskTest, all_kept, moved, text_of
from helpers import fills, refusal


class Model:
    """A desk told once more, in the words of the promise, for what needs no seeking."""

    def __init__(self):
        self.kept = {}

    def read(self, word, told):
        if word == "BY":
            return None if re.fullmatch("0|-?[1-9][0-9]{0,5}", told) else NoNumber
        if word == "TEXT":
            return None if re.fullmatch("[x.]{1,60}", told) and "x" in told else NoText
        if not re.fullmatch("[a-z]{1,8}", told) or (word != "NEW" and told not in self.kept):
            return NoName
        return None

    def say(self, command):
        """The answer, or the class of the refusal."""
        deed, *words = command.split(" ")
        form = COMMANDS.get(deed)
        if form is None or len(form.split()) != len(words):
            return NoDeed
        for word, told in zip(form.split(), words):
            if self.read(word, told) is not None:
                return self.read(word, told)
        if deed == "names":
            return " ".join(sorted(self.kept))
        if deed == "drop":
            del self.kept[words[0]]
            return "ok"
        if deed == "beat":
            return self.keep(words[0], words[1])
        if deed in ("turn", "multiply", "repeat", "spread"):
            made = self.made(deed, self.kept[words[1]], int(words[2]))
            return self.keep(words[0], made) if isinstance(made, str) else made
        return self.asked(deed, [self.kept[word] for word in words])

    def made(self, deed, text, number):
        length = len(text)
        places = [place for place, sign in enumerate(text) if sign == "x"]
        if deed == "turn":
            return moved(length, places, number)
        if deed == "multiply":
            made = text_of(length, {place * number % length for place in places})
            return made if made.count("x") == len(places) else NoBeat
        if number < 1 or length * number > 60:
            return NoWheel
        return text * number if deed == "repeat" else "".join(sign + "." * (number - 1) for sign in text)

    def asked(self, deed, texts):
        beats = [[place for place, sign in enumerate(text) if sign == "x"] for text in texts]
        if deed == "show":
            return texts[0]
        if deed == "own":
            length = len(texts[0])
            return str(min(by for by in range(1, length + 1) if moved(length, beats[0], by) == texts[0]))
        if len(texts[0]) != len(texts[1]):
            return NoWheel
        return "yes" if fills(len(texts[0]), *beats) else "no"

    def keep(self, name, text):
        if name not in self.kept and len(self.kept) == 30:
            return TooMany
        self.kept[name] = text
        return "ok"


class LongSittings(DeskTest):
    def word(self, chance, word, names):
        if chance.random() < 0.03:
            return chance.choice(["", "A", "01", "-0", "y", "abcdefghi", "1000000", "x.y", "."])
        if word == "BY":
            return str(chance.choice([0, 1, 2, 3, 5, 7, -1, -2, 11, 60, 61, 999999, -999999]))
        if word == "TEXT":
            length = chance.choice([1, 2, 4, 4, 4, 6, 12, 60])
            return "".join(chance.choice("xx.") for place in range(length))
        return chance.choice(names)

    def sit(self, chance, names, deeds, times):
        desk, model = Desk(), Model()
        told = set()
        for asking in range(times):
            deed = chance.choice(deeds)
            command = " ".join([deed, *[self.word(chance, word, names) for word in COMMANDS.get(deed, "ONE").split()]])
            asked = model.say(command)
            told.add(asked if not isinstance(asked, str) else deed)
            if isinstance(asked, str):
                self.assertEqual(desk.say(command), asked, command)
            else:
                self.assertIs(refusal(desk.say, command), asked, command)
            if asking % 20 == 0:
                self.assertEqual(all_kept(desk), model.kept)
        self.assertEqual(all_kept(desk), model.kept)
        return told

    def test_with_few_names(self):
        deeds = ["beat", "turn", "multiply", "repeat", "spread", "drop", "show", "fills", "own", "names", "keep"]
        told = self.sit(Random(30), ["a", "b", "c", "dd", "eeeeeeee"], deeds, 3000)
        self.assertLessEqual({NoDeed, NoName, NoText, NoNumber, NoWheel, NoBeat, *deeds[:-1]}, told)

    def test_with_many_names(self):
        names = ["n" + letter for letter in ascii_lowercase] + ["m" + letter for letter in "abcdefghijklm"]
        deeds = ["beat"] * 6 + ["turn"] * 4 + ["multiply", "repeat", "spread", "drop", "show", "fills", "own", "names"]
        told = self.sit(Random(31), names, deeds, 3000)
        self.assertLessEqual({NoName, NoText, NoNumber, NoWheel, NoBeat, TooMany, *deeds}, told)


if __name__ == "__main__":
    unittest.main()
