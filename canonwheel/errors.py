"""The refusals of the program, one class for each."""


class WheelError(ValueError):
    pass


class NoWheel(WheelError):
    pass


class NoBeat(WheelError):
    pass


class NoPart(WheelError):
    pass


class NoRule(WheelError):
    pass


class NoWindow(WheelError):
    pass


class NoPair(WheelError):
    pass


class NoText(WheelError):
    pass


class NoName(WheelError):
    pass


class NoNumber(WheelError):
    pass


class NoDeed(WheelError):
    pass


class TooMany(WheelError):
    pass
