"""Beats that come of a beat: turned, multiplied, repeated and spread."""

from canonwheel.beats import check_beat, check_wheel, made_beat


def turned(length, beat, by=1):
    check_beat(length, beat)
    return made_beat(length, [place + by for place in beat])


def multiplied(length, beat, by):
    check_beat(length, beat)
    return made_beat(length, [place * by for place in beat])


# A number of times below 1 makes a length below 1, so the wheel's bounds refuse it too.
def check_longer(length, beat, times):
    check_beat(length, beat)
    check_wheel(length * times)


def repeated(length, beat, times=2):
    check_longer(length, beat, times)
    places = []
    for lap in range(times):
        places.extend([place + lap * length for place in beat])
    return places


def spread(length, beat, times=2):
    check_longer(length, beat, times)
    return [place * times for place in beat]


def own_turn(length, beat):
    check_beat(length, beat)
    for by in range(1, length):
        if turned(length, beat, by) == beat:
            return by
    return length


def first_turn(length, beat):
    check_beat(length, beat)
    return min([turned(length, beat, by) for by in range(length)])
