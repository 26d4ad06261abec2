"""[28]: beats told by texts."""

import unittest
from random import Random

from canonwheel.errors import NoBeat, NoText, NoWheel
from canonwheel.texts import beat_text, read_beat
from helpers import BIG, all_beats, refusal

SOME = [
    ("x", 1, [0]),
    ("x.", 2, [0]),
    (".x", 2, [1]),
    ("xx", 2, [0, 1]),
    ("..x.", 4, [2]),
    ("x..x....", 8, [0, 3]),
    (".......x", 8, [7]),
    ("." * 59 + "x", 60, [59]),
    ("x" + "." * 59, 60, [0]),
    ("x" * 60, 60, list(range(60))),
]
NO_TEXTS = [
    "", ".", "..", "." * 60, "." * 61, "x" * 61, "x" + "." * 60, "." * 60 + "x", "x" * 120, "x." * 1000,
    "X", "X.", "xX", "x,", "x o", " x", "x ", "x. ", " ", "x\n", "\nx", "x\t", "x.\n", "0", "1", "10", "x0", "x1", "x-",
    "x_", "xy", "yx", "ab", "x..y", "x*", "x..|x", "\u0445", "x\u0445", "x\u2024", "x\u00b7", "\u00d7.", "x\uff0e",
    "\uff58", "x\x00", "x\u2026", "[0]", "x..X",
]
NOT_TEXT = [None, 0, 1, -1, 60, BIG, [], ["x"], ["x", "."], [0], (), ("x",), ("x", "."), {}, {"x": "x"}, b"x", b"x."]


def chosen_beats():
    chance = Random(28)
    beats = []
    for length in range(1, 61):
        beats += [(length, [0]), (length, [length - 1]), (length, list(range(length)))]
        for size in [1, (length + 1) // 2, length]:
            beats.append((length, sorted(chance.sample(range(length), size))))
    return beats


class Texts(unittest.TestCase):
    def test_some(self):
        for text, length, beat in SOME:
            self.assertEqual(read_beat(text), (length, beat))
            self.assertEqual(beat_text(length, beat), text)

    def test_beat_to_text_and_back(self):
        for length, beat in chosen_beats():
            text = beat_text(length, beat)
            self.assertEqual([type(text), len(text)], [str, length])
            self.assertEqual([place for place in range(length) if text[place] == "x"], beat)
            self.assertEqual(text.count("x") + text.count("."), length)
            self.assertEqual(read_beat(text), (length, beat))

    def test_text_to_beat_and_back(self):
        chance = Random(29)
        for length in range(1, 61):
            for asking in range(4):
                signs = [chance.choice("x.") for place in range(length)]
                signs[chance.randrange(length)] = "x"
                text = "".join(signs)
                told = read_beat(text)
                self.assertEqual([type(told), type(told[0]), type(told[1])], [tuple, int, list])
                self.assertEqual(told, (length, [place for place, sign in enumerate(signs) if sign == "x"]))
                self.assertEqual(beat_text(told[0], told[1]), text)

    def test_all_beats_of_short_wheels(self):
        for length in range(1, 9):
            texts = [beat_text(length, beat) for beat in all_beats(length)]
            self.assertEqual([read_beat(text)[1] for text in texts], all_beats(length))
            self.assertEqual(len(set(texts)), 2 ** length - 1)

    def test_by_name(self):
        self.assertEqual(read_beat(text=".x"), (2, [1]))
        self.assertEqual(beat_text(length=2, beat=[1]), ".x")


class Refusals(unittest.TestCase):
    def test_texts_that_are_none(self):
        for text in NO_TEXTS:
            with self.subTest(text=text):
                self.assertIs(refusal(read_beat, text), NoText)

    def test_each_other_sign(self):
        for number in list(range(256)) + [0x3c7, 0x445, 0x2e, 0x78]:
            for text in ["x" + chr(number), chr(number) + "x", "x.x" + chr(number) + "x"]:
                self.assertIs(refusal(read_beat, text), None if chr(number) in "x." else NoText, text)

    def test_what_is_no_text(self):
        for value in NOT_TEXT:
            with self.subTest(value=value):
                self.assertIs(refusal(read_beat, value), NoText)

    def test_lengths_at_the_edge(self):
        for length in range(1, 65):
            asked = NoText if length > 60 else None
            self.assertIs(refusal(read_beat, "x" * length), asked)
            self.assertIs(refusal(read_beat, "." * (length - 1) + "x"), asked)

    def test_beat_text(self):
        for length in [0, -1, 61, BIG, -BIG]:
            for beat in [[], [0], [1, 0], ["x"], [None]]:
                self.assertIs(refusal(beat_text, length, beat), NoWheel)
        for length in [1, 2, 8, 60]:
            for beat in [[], [-1], [length], [0, 0], [length - 1, 0], [0, length], [BIG]]:
                self.assertIs(refusal(beat_text, length, beat), NoBeat)


if __name__ == "__main__":
    unittest.main()
