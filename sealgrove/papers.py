"""Papers: two different lists with one digest, and what is known of rows."""

from sealgrove.octets import is_bytes


def known_rows(suite, rows):
    """Return the lists of the rows with their digests, and the items of the rows."""
    lists = {}
    items = {}
    for data, shown, _ in rows:
        if data not in lists:
            lists[data] = tuple(suite.digest(list(data)))
        for item in shown:
            items[item] = True
    return lists, items


def clash_in(lists):
    """Return a clash of two of the lists, which have their digests as values, or None."""
    first = {}
    for data in lists:
        other = first.setdefault(lists[data], data)
        if other != data:
            return "clash", other, data
    return None


def clash_of(suite, rows):
    """Return a clash of two lists of the rows, or None."""
    return clash_in(known_rows(suite, rows)[0])


def is_byte_tuple(value):
    """Tell whether the value, which may be of any kind, is a tuple of bytes."""
    return isinstance(value, tuple) and is_bytes(list(value))


def judge_clash(suite, paper):
    """Tell whether the paper, which may be of any kind, is a good clash."""
    if not isinstance(paper, tuple) or len(paper) != 3 or paper[0] != "clash":
        return False
    _, one, other = paper
    if not is_byte_tuple(one) or not is_byte_tuple(other):
        return False
    return one != other and suite.digest(list(one)) == suite.digest(list(other))
