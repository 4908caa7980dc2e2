"""Joint paths, which serve several places of one tree at once."""

from sealgrove.common import need_within, row_of
from sealgrove.errors import Malformed
from sealgrove.tree import HIGHEST, need_leaves, need_values, tree_levels


def need_places(height, places):
    """Refuse places that are not different, ascending places of one tree."""
    need_within(height, 0, HIGHEST, "the height")
    for place in places:
        need_within(place, 0, (1 << height) - 1, "a place")
    if not places:
        raise Malformed("there is no place")
    for k in range(1, len(places)):
        if places[k - 1] >= places[k]:
            raise Malformed("the places are not ascending and different")


def joint_places(height, places):
    """Return the levels and indexes of the nodes whose values make the joint path."""
    need_places(height, places)
    found = []
    known = places
    for level in range(height):
        known_here = {index: True for index in known}
        found.extend([(level, index ^ 1) for index in known if index ^ 1 not in known_here])
        known = indexes_above(known)
    return found


def indexes_above(indexes):
    """Return the indexes of the parents, without repetition."""
    above = []
    for index in indexes:
        if not above or above[-1] != index // 2:
            above.append(index // 2)
    return above


def joint_path(suite, leaves, text, places):
    """Return the joint path of the places."""
    need_leaves(suite, leaves)
    nodes = joint_places(len(leaves).bit_length() - 1, places)
    levels = tree_levels(suite, leaves, text)
    return [levels[level][index] for level, index in nodes]


def need_joint_climb(suite, height, items, path):
    """Refuse what no joint climb begins with."""
    nodes = joint_places(height, [place for place, value in items])
    if len(path) != len(nodes):
        raise Malformed("the joint path has more or fewer values than are needed")
    need_values(suite, [value for place, value in items])
    need_values(suite, path)


def level_climbed(suite, text, level, known, path):
    """Return the known nodes above a level, the rows of them, and what is left of the path."""
    above = []
    rows = []
    used = 0
    at = 0
    while at < len(known):
        index, value = known[at]
        at += 1
        if at < len(known) and known[at][0] == index ^ 1:
            other = known[at][1]
            at += 1
        else:
            other = path[used]
            used += 1
        left, right = (value, other) if index % 2 == 0 else (other, value)
        data = text(level + 1, index // 2, left, right)
        rows.append(row_of(data, [left, right], False))
        above.append((index // 2, suite.digest(data)))
    return above, rows, path[used:]


def joint_climbed(suite, text, height, items, path):
    """Return the top of a joint climb, and its rows from the top down."""
    need_joint_climb(suite, height, items, path)
    known = [(place, list(value)) for place, value in items]
    rest = path
    rows = []
    for level in range(height):
        known, found, rest = level_climbed(suite, text, level, known, rest)
        rows = found + rows
    return known[0][1], rows


def joint_climb(suite, text, height, items, path):
    """Return the top of a joint climb."""
    return joint_climbed(suite, text, height, items, path)[0]


def joint_climb_rows(suite, text, height, items, path):
    """Return the rows of a joint climb, from its top down."""
    return joint_climbed(suite, text, height, items, path)[1]
