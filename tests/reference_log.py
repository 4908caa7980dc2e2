"""The points of logs once more, as plainly as possible: recursion by the words of points 220 to 225."""

from reference import digest, num, size


def split(c):
    return max(2 ** k for k in range(40) if 2 ** k < c)


def leaf(entry):
    return [0] + entry


def fork(left, right):
    return [1] + left + right


def log_digest(name, entries):
    if not entries:
        return digest(name, [])
    if len(entries) == 1:
        return digest(name, leaf(entries[0]))
    k = split(len(entries))
    return digest(name, fork(log_digest(name, entries[:k]), log_digest(name, entries[k:])))


def head(name, entries, c):
    return c, log_digest(name, entries[:c])


def inclusion(name, entries, i):
    if len(entries) == 1:
        return []
    k = split(len(entries))
    if i < k:
        return inclusion(name, entries[:k], i) + [log_digest(name, entries[k:])]
    return inclusion(name, entries[k:], i - k) + [log_digest(name, entries[:k])]


def part(name, entries, m, whole):
    c = len(entries)
    if m == c:
        return [] if whole else [log_digest(name, entries)]
    k = split(c)
    if m <= k:
        return part(name, entries[:k], m, whole) + [log_digest(name, entries[k:])]
    return part(name, entries[k:], m - k, False) + [log_digest(name, entries[:k])]


def consistency(name, entries, m):
    return [] if m in (0, len(entries)) else part(name, entries, m, True)


def leads(name, c, i, entry, path, lists):
    """The digest to which a path leads, or None; the digested lists are put behind the others."""
    def digested(data):
        lists.append(tuple(data))
        return digest(name, data)

    if c == 1:
        return digested(leaf(entry)) if path == [] else None
    if not path:
        return None
    s, k = path[-1], split(c)
    x = leads(name, k, i, entry, path[:-1], lists) if i < k else leads(name, c - k, i - k, entry, path[:-1], lists)
    if x is None:
        return None
    return digested(fork(x, s) if i < k else fork(s, x))


def are_values(name, path):
    return isinstance(path, list) and all(
        isinstance(value, list) and len(value) == size(name) and all(type(byte) is int and 0 <= byte < 256 for byte in value)
        for value in path)


def inclusion_lists(name, head, i, entry, path):
    """The lists of an accepted inclusion path, or None."""
    c, wanted = head
    lists = []
    if not 0 <= i < c <= 1048576 or not are_values(name, path):
        return None
    return lists if leads(name, c, i, entry, path, lists) == wanted else None


def tells(name, m, c, whole, a, path, lists):
    """The pair that a path tells, or None."""
    def digested(data):
        lists.append(tuple(data))
        return digest(name, data)

    if m == c:
        if whole:
            return (a, a) if path == [] else None
        return (path[0], path[0]) if len(path) == 1 else None
    if not path:
        return None
    s, k = path[-1], split(c)
    if m <= k:
        told = tells(name, m, k, whole, a, path[:-1], lists)
        return told and (told[0], digested(fork(told[1], s)))
    told = tells(name, m - k, c - k, False, a, path[:-1], lists)
    return told and (digested(fork(s, told[0])), digested(fork(s, told[1])))


def consistency_lists(name, first, second, path):
    """The lists of an accepted consistency path, or None."""
    (m, a), (c, b) = first, second
    if not 0 <= m <= c <= 1048576:
        return None
    if m == c:
        return [] if path == [] and a == b else None
    if m == 0:
        return [()] if path == [] and a == digest(name, []) else None
    lists = []
    if not are_values(name, path) or tells(name, m, c, True, a, path, lists) != (a, b):
        return None
    return lists


def head_text(head):
    return [2] + num(head[0], 4) + head[1]
