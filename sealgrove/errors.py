"""The errors that the program raises."""


class SealError(ValueError):
    """The base class of all errors that the program raises."""


class OutOfRange(SealError):
    """A number or a length is not within its bounds."""


class Malformed(SealError):
    """A byte list, a string or a text does not have the required form."""


class Refused(SealError):
    """A rule does not allow it."""


class UsedUp(SealError):
    """A key has no place left."""


class PowerLost(SealError):
    """A deed of a disk while its power is off."""


class NotThere(SealError):
    """Something that is named does not exist."""


class BadLine(SealError):
    """A line of a scenario is not valid; the field line tells its number."""

    def __init__(self, line):
        SealError.__init__(self, f"line {line} is not valid")
        self.line = line
