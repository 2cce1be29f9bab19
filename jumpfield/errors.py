"""The refusals: each is a class of its own under FieldError."""


class FieldError(ValueError):
    pass


class NoNumber(FieldError):
    pass


class NoRule(FieldError):
    pass


class Restless(FieldError):
    pass


class NoSquare(FieldError):
    pass


class NoLevel(FieldError):
    pass


class NoState(FieldError):
    pass


class NoBox(FieldError):
    pass


class TooFar(FieldError):
    pass


class TooMany(FieldError):
    pass


class NoSteps(FieldError):
    pass


class NoPattern(FieldError):
    pass


class NoName(FieldError):
    pass


class NoRow(FieldError):
    pass
