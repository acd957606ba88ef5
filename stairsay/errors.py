"""The refusals: each one a class of its own straight under SayError."""


class SayError(ValueError):
    pass


class BadName(SayError):
    pass


class Twice(SayError):
    pass


class BadCount(SayError):
    pass


class NoKind(SayError):
    pass


class Groundless(SayError):
    pass


class NoMaker(SayError):
    pass


class NoName(SayError):
    pass


class NoFunction(SayError):
    pass


class NotLess(SayError):
    pass


class BadKind(SayError):
    pass


class TooLong(SayError):
    pass


class NoPlace(SayError):
    pass


class NotShown(SayError):
    pass


class NoSaying(SayError):
    pass


class BadText(SayError):
    pass
