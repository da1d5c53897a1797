"""The refusals, one class for each."""


class WireError(ValueError):
    pass


class NoWires(WireError):
    pass


class NoGate(WireError):
    pass


class NoShuffle(WireError):
    pass


class NoTimes(WireError):
    pass


class Odd(WireError):
    pass


class NoNote(WireError):
    pass
