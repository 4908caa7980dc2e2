"""Scenarios: deeds as lines of a text, and reports of their outcomes."""

from sealgrove.errors import BadLine, Malformed

DIGITS = "0123456789"
HEX_DIGITS = "0123456789abcdef"
LONGEST_NUMBER = 7
GREATEST = 1000000
LONGEST_DATA = 2000
MOST_PICKS = 64
MOST_CHANGES = 16


def need_good(holds):
    """Refuse a word or a line for which a rule does not hold."""
    if not holds:
        raise Malformed("the line is no deed")


def read_number(word):
    """Return the number of a word."""
    need_good(1 <= len(word) <= LONGEST_NUMBER and all([sign in DIGITS for sign in word]))
    need_good(word == "0" or word[0] != "0")
    number = int(word)
    need_good(number <= GREATEST)
    return number


def read_data(word, most):
    """Return the bytes of a word, at most so many, as a tuple."""
    if word == "-":
        return ()
    need_good(word != "" and len(word) % 2 == 0 and len(word) // 2 <= most)
    need_good(all([sign in HEX_DIGITS for sign in word]))
    return tuple([int(word[at:at + 2], 16) for at in range(0, len(word), 2)])


def read_change(word):
    """Return the index and the value of a change."""
    number, _, data = word.partition("=")
    need_good(len(data) == 2)
    return read_number(number), read_data(data, 1)[0]


def read_offer(parts):
    """Return the deed of an offer, for the words behind its name."""
    need_good(2 <= len(parts) <= 2 + MOST_CHANGES)
    changes = tuple([read_change(word) for word in parts[2:]])
    return "offer", read_number(parts[0]), read_data(parts[1], LONGEST_DATA), changes


def read_line(line):
    """Return the deed of a line."""
    words = line.split(" ")
    name = words[0]
    if name == "offer":
        return read_offer(words[1:])
    if name == "open":
        need_good(len(words) == 1)
        return ("open",)
    need_good(len(words) == 2)
    if name == "sign":
        return "sign", read_data(words[1], LONGEST_DATA)
    if name == "crash":
        return "crash", read_data(words[1], MOST_PICKS)
    need_good(name in ("skip", "fail", "head"))
    return name, read_number(words[1])


def read_scenario(text):
    """Return the deeds of a text."""
    deeds = []
    for number, line in enumerate(text.split("\n"), start=1):
        if line == "" or line.startswith("#"):
            continue
        try:
            deeds.append(read_line(line))
        except Malformed:
            raise BadLine(number) from None
    return deeds


def write_part(part):
    """Return the word of a word, a number, or a tuple of bytes."""
    if isinstance(part, str):
        return part
    if isinstance(part, int):
        return str(part)
    return "".join([f"{byte:02x}" for byte in part]) if part else "-"


def write_line(parts):
    """Return the line of words, numbers and tuples of bytes."""
    return " ".join([write_part(part) for part in parts]) + "\n"


def write_deed(deed):
    """Return the line of a deed."""
    if deed[0] != "offer":
        return write_line(deed)
    name, index, data, changes = deed
    return write_line([name, index, data] + [f"{at}={value:02x}" for at, value in changes])


def write_scenario(deeds):
    """Return the text of deeds."""
    return "".join([write_deed(deed) for deed in deeds])


def report(outcomes):
    """Return the text of outcomes."""
    return "".join([write_line(outcome) for outcome in outcomes])
