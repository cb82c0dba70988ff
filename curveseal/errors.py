"""The errors that the program raises."""


class CurveError(ValueError):
    """The base class of all errors of the program."""


class OutOfRange(CurveError):
    """A number or a length is not within its bounds."""


class Malformed(CurveError):
    """Bytes or a text do not have the required form."""


class NotAPoint(CurveError):
    """There is no such point on the curve."""


class NoInverse(CurveError):
    """A number has no inverse."""


class Refused(CurveError):
    """A rule does not allow it."""


class BadLine(CurveError):
    """A line of a scenario is not valid."""

    def __init__(self, line):
        super().__init__(f"line {line} is not valid")
        self.line = line
