"""Beats told by texts, a sign for each place of the wheel."""

from canonwheel.beats import LONGEST, check_beat
from canonwheel.errors import NoText


def has_only(text, signs):
    return all([sign in signs for sign in text])


def read_beat(text):
    if not isinstance(text, str) or len(text) > LONGEST:
        raise NoText("a beat is told by a text of at most 60 signs")
    # A text of no sign has no x either.
    if "x" not in text or not has_only(text, "x."):
        raise NoText("a text has x and full stops, and one x at least")
    return (len(text), [place for place, sign in enumerate(text) if sign == "x"])


def beat_text(length, beat):
    check_beat(length, beat)
    return "".join(["x" if place in beat else "." for place in range(length)])
