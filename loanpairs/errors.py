"""The errors of the package."""


class LoanError(ValueError):
    """What all errors about invalid values are derived from."""


class InvalidWord(LoanError):
    """A value is no name, no fields or no part."""


class InvalidFunction(LoanError):
    """There is no such function, or no such step."""


class InvalidProgram(LoanError):
    """There is no such program."""


class InvalidState(LoanError):
    """A value is no state, or no fact."""


class InvalidWalk(LoanError):
    """A value is no walk lines."""


class InvalidTable(LoanError):
    """A value is no table."""


class InvalidContract(LoanError):
    """There is no such contract."""


class InvalidOperation(LoanError):
    """What is asked for cannot be done."""


class ParseError(LoanError):
    """A text is none; `line` is the index of the first wrong line, or None."""

    def __init__(self, line):
        self.line = line


class UnknownName(KeyError):
    """Nothing has the name `wanted`."""

    def __init__(self, wanted):
        self.wanted = wanted


class NothingToUndo(IndexError):
    """There are not `many` changes to take back or to do again."""

    def __init__(self, many):
        self.many = many


class NotReached(LookupError):
    """No walk comes to `point`."""

    def __init__(self, point):
        self.point = point


class TooMany(OverflowError):
    """There is more of something than `limit`."""

    def __init__(self, limit):
        self.limit = limit


class Refused(ArithmeticError):
    """A change would break `claim`."""

    def __init__(self, claim):
        self.claim = claim


class InvalidNumber(RuntimeError):
    """`given` is no such number."""

    def __init__(self, given):
        self.given = given
