"""Heads of logs: paths that are checked for them, and clashes of logs that show two faces."""

from sealgrove.common import are_values
from sealgrove.errors import Refused
from sealgrove.logbook import MOST_ENTRIES, entry_list, fork_list, split_of


def inclusion_turns(index, count):
    """Return, from the lowest fork upward, whether the entry lies on the left of it."""
    turns = []
    while count > 1:
        split = split_of(count)
        turns.append(index < split)
        if index < split:
            count = split
        else:
            index -= split
            count -= split
    return turns[::-1]


def digested_inclusion(suite, head, index, entry, path):
    """Return the lists that are digested for an inclusion path, or None if it is not accepted."""
    count, digest = head
    if not 0 <= index < count <= MOST_ENTRIES:
        return None
    turns = inclusion_turns(index, count)
    if not are_values(path, len(turns), suite.size):
        return None
    lists = [entry_list(entry)]
    for is_left, value in zip(turns, path):
        reached = suite.digest(lists[-1])
        lists.append(fork_list(reached, value) if is_left else fork_list(value, reached))
    return lists if suite.digest(lists[-1]) == digest else None


def part_turns(first, count):
    """Return, from the lowest fork upward, whether the first entries lie on the left of it.

    Behind it, tell whether they are one of the parts of the whole log.
    """
    turns = []
    whole = True
    while first < count:
        split = split_of(count)
        turns.append(first <= split)
        if first <= split:
            count = split
        else:
            first -= split
            count -= split
            whole = False
    return turns[::-1], whole


def digested_part(suite, first, second, path):
    """Return the fork lists of a consistency path between two logs of which the first one is not empty, and is shorter.

    They are tuples, one for each fork, from the lowest one upward: a list for the first log, or None
    if it has no such fork, and a list for the second log. Return None if the path is not accepted.
    """
    turns, whole = part_turns(first[0], second[0])
    below = 0 if whole else 1
    if not are_values(path, below + len(turns), suite.size):
        return None
    low = high = first[1] if whole else path[0]
    forks = []
    for is_left, value in zip(turns, path[below:]):
        if is_left:
            forks.append((None, fork_list(high, value)))
        else:
            forks.append((fork_list(value, low), fork_list(value, high)))
            low = suite.digest(forks[-1][0])
        high = suite.digest(forks[-1][1])
    return forks if (low, high) == (first[1], second[1]) else None


def digested_consistency(suite, first, second, path):
    """Return the forks of a consistency path, as digested_part does, or None if it is not accepted."""
    if not 0 <= first[0] <= second[0] <= MOST_ENTRIES:
        return None
    if 0 < first[0] < second[0]:
        return digested_part(suite, first, second, path)
    known = second[1] if first[0] == second[0] else suite.digest([])
    return [] if path == [] and first[1] == known else None


def accepts_inclusion(suite, head, index, entry, path):
    """Tell whether an inclusion path is accepted."""
    return digested_inclusion(suite, head, index, entry, path) is not None


def accepts_consistency(suite, first, second, path):
    """Tell whether a consistency path is accepted."""
    return digested_consistency(suite, first, second, path) is not None


def need_accepted(lists):
    """Refuse what is not accepted."""
    if lists is None:
        raise Refused("a path is not accepted")


def inclusion_lists(suite, head, index, entry, path):
    """Return the lists that are digested for an accepted inclusion path."""
    lists = digested_inclusion(suite, head, index, entry, path)
    need_accepted(lists)
    return [tuple(data) for data in lists]


def consistency_lists(suite, first, second, path):
    """Return the lists that are digested for an accepted consistency path."""
    forks = digested_consistency(suite, first, second, path)
    need_accepted(forks)
    if first[0] == 0 and second[0] > 0:
        return [()]
    return [tuple(data) for fork in forks for data in fork if data is not None]


def first_clash(ones, others):
    """Return the clash of the uppermost two lists that differ; lists are given from the lowest one upward."""
    differing = [(one, other) for one, other in zip(ones, others) if one != other]
    return clash(differing[-1][0], differing[-1][1])


def clash(one, other):
    """Return the clash of two lists."""
    return "clash", tuple(one), tuple(other)


def same_entry(suite, head, index, one, other):
    """Return None if two accepted paths have the same entry, otherwise a clash of their lists."""
    ones = inclusion_lists(suite, head, index, one[0], one[1])
    others = inclusion_lists(suite, head, index, other[0], other[1])
    return None if one[0] == other[0] else first_clash(ones, others)


def carry_back(suite, first, second, consistency, index, entry, path):
    """Return an accepted path of the entry under the first head, or a clash of lists of the two paths."""
    forks = digested_consistency(suite, first, second, consistency)
    lists = digested_inclusion(suite, second, index, entry, path)
    need_accepted(forks)
    need_accepted(lists)
    if index >= first[0]:
        raise Refused("the first head has no such entry")
    below = [list(value) for value in path]
    above = []
    count = second[0]
    for low, high in forks[::-1]:
        found = lists[len(below)]
        if found != high:
            return clash(high, found)
        # From here on both paths have the same values on both sides of the fork.
        value = below.pop()
        split = split_of(count)
        if low is None:
            count = split
        elif index < split:
            return "path", below + [low[1 + suite.size:]] + above
        else:
            above = [value] + above
            index -= split
            count -= split
    return "path", below + above


def two_faces(suite, heads, consistencies, index, one, other):
    """Return None if the paths under the first and the last head have the same entry, otherwise a clash."""
    # Without a head there are too many paths, too.
    if len(consistencies) != len(heads) - 1:
        raise Refused("there is not one consistency path from each head to the next one")
    inclusion_lists(suite, heads[0], index, one[0], one[1])
    inclusion_lists(suite, heads[-1], index, other[0], other[1])
    for first, second, path in zip(heads, heads[1:], consistencies):
        consistency_lists(suite, first, second, path)
    if one[0] == other[0]:
        return None
    path = other[1]
    for k in reversed(range(len(consistencies))):
        found = carry_back(suite, heads[k], heads[k + 1], consistencies[k], index, other[0], path)
        if found[0] == "clash":
            return found
        path = found[1]
    return same_entry(suite, heads[0], index, one, (other[0], path))


class Watcher:
    """Follows a log from head to head."""

    def __init__(self, suite):
        self._suite = suite
        self._count = 0
        self._digest = suite.digest([])

    def take(self, head, path):
        """Take the head if the path is accepted for it; tell whether it was taken."""
        if not accepts_consistency(self._suite, self.head(), head, path):
            return False
        self._count = head[0]
        self._digest = list(head[1])
        return True

    def head(self):
        """Return the head that was taken last."""
        return self._count, list(self._digest)
