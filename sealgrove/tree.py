"""Trees whose nodes are digests: levels, paths, climbs, and growing with a small stack."""

from sealgrove.common import has_size, need_within, row_of
from sealgrove.errors import Malformed, OutOfRange

HIGHEST = 25


def need_values(suite, values):
    """Refuse values that are not digests of the suite."""
    for value in values:
        if not has_size(value, suite.size):
            raise Malformed(f"a value does not have {suite.size} bytes")


def need_leaves(suite, leaves):
    """Refuse values that are not those of all leaves of a tree."""
    count = len(leaves)
    if not 1 <= count <= 1 << HIGHEST or count & (count - 1) != 0:
        raise OutOfRange("no tree has this number of leaves")
    need_values(suite, leaves)


def tree_levels(suite, leaves, text):
    """Return the values of the nodes of all levels, from the leaves to the root."""
    need_leaves(suite, leaves)
    levels = [[list(leaf) for leaf in leaves]]
    while len(levels[-1]) > 1:
        levels.append(level_above(suite, text, len(levels), levels[-1]))
    return levels


def level_above(suite, text, level, below):
    """Return the values of a level, for those of the level below it."""
    return [
        suite.digest(text(level, index, below[2 * index], below[2 * index + 1]))
        for index in range(len(below) // 2)
    ]


def root_of(suite, leaves, text):
    """Return the value of the root."""
    return tree_levels(suite, leaves, text)[-1][0]


def path_of(suite, leaves, text, place):
    """Return the path of a place."""
    need_leaves(suite, leaves)
    need_within(place, 0, len(leaves) - 1, "the place")
    levels = tree_levels(suite, leaves, text)
    return [levels[level][(place >> level) ^ 1] for level in range(len(levels) - 1)]


def put_leaf(suite, text, stack, place, value):
    """Put a leaf on the stack and join what can be joined; return the nodes that came to be.

    A node is a tuple of its level, its index and its value.
    """
    node = (0, place, list(value))
    made = [node]
    stack.append(node)
    while len(stack) > 1 and stack[-2][0] == stack[-1][0]:
        level, index, right = stack.pop()
        left = stack.pop()[2]
        data = text(level + 1, index // 2, left, right)
        node = (level + 1, index // 2, suite.digest(data))
        made.append(node)
        stack.append(node)
    return made


def node_of(suite, leaf, text, level, index):
    """Return the value of one node, from the leaves under it alone."""
    need_within(level, 0, HIGHEST, "the level")
    if index < 0:
        raise OutOfRange("the index is negative")
    stack = []
    for place in range(index << level, (index + 1) << level):
        put_leaf(suite, text, stack, place, leaf(place))
    return stack[0][2]


def grown(suite, height, leaf, text, place):
    """Return the root, the path of a place, and how many values the stack held at most."""
    need_within(height, 0, HIGHEST, "the height")
    need_within(place, 0, (1 << height) - 1, "the place")
    path = [[] for _ in range(height)]
    stack = []
    most = 0
    for q in range(1 << height):
        most = max(most, len(stack) + 1)
        for level, index, value in put_leaf(suite, text, stack, q, leaf(q)):
            if level < height and index == (place >> level) ^ 1:
                path[level] = value
    return stack[0][2], path, most


def need_climb(suite, place, value, path):
    """Refuse what no climb begins with."""
    if len(path) > HIGHEST:
        raise OutOfRange(f"the path has more than {HIGHEST} values")
    need_within(place, 0, (1 << len(path)) - 1, "the place")
    need_values(suite, [value])
    need_values(suite, path)


def climbed(suite, text, place, value, path):
    """Return the top of a climb, and its rows from the lowest one upward."""
    need_climb(suite, place, value, path)
    rows = []
    reached = list(value)
    for level, sibling in enumerate(path):
        index = place >> level
        left, right = (reached, sibling) if index % 2 == 0 else (sibling, reached)
        data = text(level + 1, index // 2, left, right)
        rows.append(row_of(data, [left, right], False))
        reached = suite.digest(data)
    return reached, rows


def climb(suite, text, place, value, path):
    """Return the top of a climb."""
    return climbed(suite, text, place, value, path)[0]


def climb_rows(suite, text, place, value, path):
    """Return the rows of a climb, from its top down."""
    return climbed(suite, text, place, value, path)[1][::-1]


def parting(suite, rows, others):
    """Return the first two lists that differ, if they have one digest, otherwise None."""
    if len(rows) != len(others):
        raise Malformed("the lists of rows have different lengths")
    for row, other in zip(rows, others):
        if row[0] != other[0]:
            if suite.digest(list(row[0])) == suite.digest(list(other[0])):
                return row[0], other[0]
            return None
    return None
