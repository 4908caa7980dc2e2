"""What several modules share: checks of arguments, and the making of rows."""

from sealgrove.errors import OutOfRange
from sealgrove.octets import is_bytes, within

LAST_U32 = 4294967295
LAST_U64 = 18446744073709551615
LONGEST_MESSAGE = 65536


def has_size(value, size):
    """Tell whether the value, which may be of any kind, is a byte list of this length."""
    return is_bytes(value) and len(value) == size


def are_values(values, count, size):
    """Tell whether the values, which may be of any kind, are a list of count byte lists of this length."""
    if not isinstance(values, list) or len(values) != count:
        return False
    return all(has_size(value, size) for value in values)


def need_within(value, low, high, what):
    """Refuse a number that is not from low to high."""
    if not within(value, low, high):
        raise OutOfRange(f"{what} is not from {low} to {high}")


def need_at_least(value, low, what):
    """Refuse a number that is less than low."""
    if value < low:
        raise OutOfRange(f"{what} is less than {low}")


def need_size(value, size, what):
    """Refuse a byte list of another length."""
    if not has_size(value, size):
        raise OutOfRange(f"{what} does not have {size} bytes")


def need_identifier(identifier):
    """Refuse an identifier that is none."""
    need_size(identifier, 16, "the identifier")


def need_place(identifier, q):
    """Refuse a place of a one-time key that is none."""
    need_identifier(identifier)
    need_within(q, 0, LAST_U32, "the number of the place")


def need_message(message):
    """Refuse a message that is too long."""
    if len(message) > LONGEST_MESSAGE:
        raise OutOfRange(f"the message has more than {LONGEST_MESSAGE} bytes")


def passed_on(message):
    """Return the message for a function of the caller, which may return or change what it is passed."""
    return list(message) if isinstance(message, list) else message


def joined(lists):
    """Return the byte lists, put one behind the other."""
    return [byte for data in lists for byte in data]


def pieces(data, size):
    """Return the byte list, cut into lists of this length."""
    return [data[at:at + size] for at in range(0, len(data), size)]


def row_of(data, items, loose):
    """Return the row of a byte list in which the items stand."""
    return tuple(data), tuple([tuple(item) for item in items]), loose


def chains_rows(suite, text, digits, top, values):
    """Return the ends of chains, and the rows of their steps: those of each chain from the last step down.

    text returns the list of a chain, a step and a value.
    """
    reached_ends = []
    rows = []
    for chain, value in enumerate(values):
        reached = value
        steps = []
        for step in range(digits[chain], top):
            data = text(chain, step, reached)
            steps.append(row_of(data, [reached], False))
            reached = suite.digest(data)
        reached_ends.append(reached)
        rows.extend(steps[::-1])
    return reached_ends, rows
