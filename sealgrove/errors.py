"""The errors that the program raises."""


class SealError(ValueError):
    """The base class of all errors that the program raises."""


class OutOfRange(SealError):
    """A number or a length is not within its bounds."""


class Malformed(SealError):
    """A byte list, a string or a text does not have the required form."""


class Refused(SealError):
    """A rule does not allow it."""


class UsedUp(SealError):
    """A key has no place left."""


class PowerLost(SealError):
    """A deed of a disk while its power is off."""


class NotThere(SealError):
    """Something that is named does not exist."""


class BadLine(SealError):
    """A line of a scenario is not valid; the field line tells its number."""

    def __init__(self, line):
        # The number is not in the text: Python refuses to write a number of more than 4300 digits.
        SealError.__init__(self, "a line is not valid")
        self.line = line
