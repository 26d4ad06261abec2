"""The desk: beats on wheels, kept by names and worked on by commands."""

from canonwheel.beats import is_partner
from canonwheel.cases import sought_partner
from canonwheel.errors import NoDeed, NoName, NoNumber, NoWheel, TooMany
from canonwheel.partners import partner_kinds
from canonwheel.parts import parts_had
from canonwheel.rules import first_rule, made_partner, second_rule
from canonwheel.texts import beat_text, has_only, read_beat
from canonwheel.turns import multiplied, own_turn, repeated, spread, turned

MOST_NAMES = 30
LONGEST_NAME = 8
LETTERS = "abcdefghijklmnopqrstuvwxyz"
MOST_FIGURES = 6
FIGURES = "0123456789"

# What stands behind the first word of each command; "kept" is a name by which a beat must be kept already.
FORMS = {
    "beat": ("new", "text"),
    "turn": ("new", "kept", "number"),
    "multiply": ("new", "kept", "number"),
    "repeat": ("new", "kept", "number"),
    "spread": ("new", "kept", "number"),
    "made": ("new", "kept"),
    "drop": ("kept",),
    "partner": ("new", "kept"),
    "show": ("kept",),
    "fills": ("kept", "kept"),
    "parts": ("kept",),
    "rules": ("kept",),
    "kinds": ("kept",),
    "own": ("kept",),
    "names": (),
}


class Wheel:
    def __init__(self, length, beat):
        self.length = length
        self.beat = beat


def words_of(command):
    if not isinstance(command, str):
        raise NoDeed("a command is a text")
    words = command.split(" ")
    if words[0] not in FORMS or len(words) != len(FORMS[words[0]]) + 1:
        raise NoDeed("there is no such command")
    return words


def check_name(word):
    if len(word) < 1 or len(word) > LONGEST_NAME or not has_only(word, LETTERS):
        raise NoName("a name has one to eight small letters")


def read_text(word):
    told = read_beat(word)
    return Wheel(told[0], told[1])


def read_number(word):
    figures = word[1:] if word.startswith("-") else word
    if len(figures) < 1 or len(figures) > MOST_FIGURES or not has_only(figures, FIGURES):
        raise NoNumber("a number has one to six figures")
    if figures.startswith("0") and word != "0":
        raise NoNumber("no nought stands ahead, and 0 has no sign")
    return int(word)


def turned_wheel(wheel, by):
    return Wheel(wheel.length, turned(wheel.length, wheel.beat, by))


def multiplied_wheel(wheel, by):
    return Wheel(wheel.length, multiplied(wheel.length, wheel.beat, by))


def repeated_wheel(wheel, times):
    return Wheel(wheel.length * times, repeated(wheel.length, wheel.beat, times))


def spread_wheel(wheel, times):
    return Wheel(wheel.length * times, spread(wheel.length, wheel.beat, times))


def made_wheel(wheel):
    return Wheel(wheel.length, made_partner(wheel.length, wheel.beat))


def yes_or_no(truth):
    return "yes" if truth else "no"


def fills_answer(wheel, other):
    if wheel.length != other.length:
        raise NoWheel("the two wheels are not of one length")
    return yes_or_no(is_partner(wheel.length, wheel.beat, other.beat))


def show_answer(wheel):
    return beat_text(wheel.length, wheel.beat)


def parts_answer(wheel):
    return " ".join([str(number) for number in parts_had(wheel.length, wheel.beat)])


def rules_answer(wheel):
    first = yes_or_no(first_rule(wheel.length, wheel.beat))
    second = yes_or_no(second_rule(wheel.length, wheel.beat))
    return f"{first} {second}"


def kinds_answer(wheel):
    return str(len(partner_kinds(wheel.length, wheel.beat)))


def own_answer(wheel):
    return str(own_turn(wheel.length, wheel.beat))


MOVES = {"turn": turned_wheel, "multiply": multiplied_wheel, "repeat": repeated_wheel, "spread": spread_wheel}
ANSWERS = {
    "show": show_answer,
    "parts": parts_answer,
    "rules": rules_answer,
    "kinds": kinds_answer,
    "own": own_answer,
}


class Desk:
    def __init__(self):
        self.wheels = {}

    def say(self, command):
        words = words_of(command)
        # All words are read ahead of any deed, so that a word that is refused leaves all as it was.
        values = [self.read_word(form, word) for form, word in zip(FORMS[words[0]], words[1:])]
        return self.answer(words, values)

    def read_word(self, form, word):
        if form == "number":
            return read_number(word)
        if form == "text":
            return read_text(word)
        check_name(word)
        if form == "new":
            return word
        if word not in self.wheels:
            raise NoName("no beat is kept by this name")
        return self.wheels[word]

    def answer(self, words, values):
        deed = words[0]
        if deed in ANSWERS:
            return ANSWERS[deed](values[0])
        if deed in MOVES:
            return self.keep(words[1], MOVES[deed](values[1], values[2]))
        if deed == "beat":
            return self.keep(words[1], values[1])
        if deed == "made":
            return self.keep(words[1], made_wheel(values[1]))
        if deed == "partner":
            return self.keep_partner(words[1], values[1])
        if deed == "fills":
            return fills_answer(values[0], values[1])
        if deed == "drop":
            self.wheels.pop(words[1])
            return "ok"
        return " ".join(sorted(self.wheels))

    def keep(self, name, wheel):
        if name not in self.wheels and len(self.wheels) == MOST_NAMES:
            raise TooMany("a desk keeps at most 30 beats")
        self.wheels[name] = wheel
        return "ok"

    def keep_partner(self, name, wheel):
        told = sought_partner(wheel.length, wheel.beat)
        if told[0] == "starts":
            return self.keep(name, Wheel(wheel.length, told[1]))
        if told[1] in ("count", "parts"):
            return told[1]
        rows = len(told[1])
        return f"cases {rows}"
