"""The refusals: one class for each, under one base."""


class HatError(ValueError):
    pass


class LineError(HatError):
    def __init__(self, line):
        self.line = line


class NoLine(LineError):
    pass


class Twice(LineError):
    pass


class Unknown(LineError):
    pass


class TooMany(LineError):
    pass


class NoAsk(HatError):
    pass


class NoName(HatError):
    pass


class NoHats(HatError):
    pass


class NoGroups(HatError):
    pass


class NoPlan(HatError):
    pass
