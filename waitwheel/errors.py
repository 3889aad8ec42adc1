"""The refusals, each a class of its own."""


class WheelError(ValueError):
    pass


class NoDeed(WheelError):
    pass


class TieTwice(WheelError):
    pass


class Idle(WheelError):
    pass


class NotOnePiece(WheelError):
    pass


class TooSlow(WheelError):
    pass


class BadNote(WheelError):
    pass
