"""Coefficients of byte lists, and the parameters of one-time keys."""

from sealgrove.errors import Malformed, OutOfRange
from sealgrove.octets import u16, within
from sealgrove.suites import Suite

WIDTHS = (1, 2, 4, 8)
FIRST_CODE = 3758096384


def need_width(width):
    """Refuse a width that is none."""
    if not within(width, 1, 8) or width not in WIDTHS:
        raise OutOfRange("the width is not 1, 2, 4 or 8")


def coefficient(data, index, width):
    """Return the number of the bits of the data that the index tells, width bits for each."""
    need_width(width)
    if index < 0 or (index + 1) * width > 8 * len(data):
        raise OutOfRange("the byte list has no such coefficient")
    start = index * width
    # A width divides 8, so that no coefficient lies in two bytes.
    return data[start // 8] >> (8 - width - start % 8) & ((1 << width) - 1)


def digits_of_sum(u, top, width):
    """Return how many digits the greatest check sum needs."""
    count = 0
    while 1 << (count * width) <= u * top:
        count += 1
    return count


def code_of(suite, width):
    """Return the code of the parameters."""
    if suite.core == 0 and suite.size == 32:
        return 1 + WIDTHS.index(width)
    return FIRST_CODE + 65536 * suite.core + 256 * suite.size + width


class OneTime:
    """The parameters of one-time keys: a suite and a width."""

    def __init__(self, suite, width):
        need_width(width)
        self.suite = suite
        self.width = width
        self.top = (1 << width) - 1
        self.u = 8 * suite.size // width
        self.v = digits_of_sum(self.u, self.top, width)
        self.ls = 16 - self.v * width
        self.p = self.u + self.v
        self.code = code_of(suite, width)

    def check_sum(self, digest):
        """Return the check sum of the coefficients of a digest."""
        return sum([self.top - digit for digit in self._coefficients(digest)])

    def digits(self, digest):
        """Return the digits of a digest, one for each chain."""
        last = u16(self.check_sum(digest) << self.ls)
        return self._coefficients(digest) + [coefficient(last, k, self.width) for k in range(self.v)]

    def _coefficients(self, digest):
        if len(digest) != self.suite.size:
            raise OutOfRange("the digest has another length than those of the suite")
        return [coefficient(digest, k, self.width) for k in range(self.u)]


def one_time_of(code):
    """Return the parameters with this code."""
    if within(code, 1, 4):
        return OneTime(Suite(0, 32), WIDTHS[code - 1])
    rest = code - FIRST_CODE
    core = rest // 65536
    size = rest // 256 % 256
    width = rest % 256
    if not within(core, 0, 1) or not within(size, 1, 32) or width not in WIDTHS:
        raise Malformed("there are no parameters with this code")
    kind = OneTime(Suite(core, size), width)
    # sha-32 has short codes only.
    if kind.code != code:
        raise Malformed("there are no parameters with this code")
    return kind


def lower(one, other):
    """Return the indexes at which the first list has the smaller digit."""
    if len(one) != len(other):
        raise OutOfRange("the lists of digits have different lengths")
    return [k for k in range(len(one)) if one[k] < other[k]]
