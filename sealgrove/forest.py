"""Forests: keys that show one leaf of each of their trees, for digests that tell which ones."""

from sealgrove.address import FOREST, LEAF_SECRET, ROOTS
from sealgrove.common import are_values, has_size, joined, need_within, row_of
from sealgrove.errors import Malformed
from sealgrove.hashes import addressed, addressed_list, bit_digits
from sealgrove.schemes import need_leaf
from sealgrove.tree import climb, climb_rows, grown


def need_forest(scheme, at):
    """Refuse a place that is none."""
    tree, leaf = at
    need_leaf(scheme, 0, tree, leaf)


def need_node(scheme, at, level, index):
    """Refuse a place or an index of a node that is none; the level is one of the forest."""
    need_forest(scheme, at)
    need_within(index, 0, (scheme.k << (scheme.a - level)) - 1, "the index")


def forest_address(at, use, level, index):
    """Return an address of the forest at a place."""
    tree, leaf = at
    return 0, tree, use, leaf, level, index


def forest_leaf_list(scheme, seed, at, index, value):
    """Return the leaf list of a leaf."""
    need_node(scheme, at, 0, index)
    return addressed_list(scheme.suite, seed, forest_address(at, FOREST, 0, index), value)


def forest_fork_list(scheme, seed, at, level, index, left, right):
    """Return the fork list of a node above the leaves."""
    need_within(level, 1, scheme.a, "the level")
    need_node(scheme, at, level, index)
    return addressed_list(scheme.suite, seed, forest_address(at, FOREST, level, index), left + right)


def forest_roots_list(scheme, seed, at, roots):
    """Return the roots list."""
    need_forest(scheme, at)
    return addressed_list(scheme.suite, seed, forest_address(at, ROOTS, 0, 0), joined(roots))


def forest_secret(scheme, seed, secret, at, index):
    """Return the secret of a leaf."""
    need_node(scheme, at, 0, index)
    return addressed(scheme.suite, seed, forest_address(at, LEAF_SECRET, 0, index), secret)


def leaf_digest(scheme, seed, at, index, value):
    """Return the value of a leaf, for the value that is shown as its secret."""
    return scheme.suite.digest(forest_leaf_list(scheme, seed, at, index, value))


def forest_text(scheme, seed, at, number):
    """Return the text function of one of the trees, in which the indexes of each level begin with 0."""
    return lambda level, index, left, right: forest_fork_list(
        scheme, seed, at, level, (number << (scheme.a - level)) + index, left, right,
    )


def grown_tree(scheme, seed, secret, at, number, place):
    """Return the root of one of the trees, and the path of a place of it."""
    first = number << scheme.a
    root, path, _ = grown(
        scheme.suite, scheme.a,
        lambda q: leaf_digest(scheme, seed, at, first + q, forest_secret(scheme, seed, secret, at, first + q)),
        forest_text(scheme, seed, at, number), place,
    )
    return root, path


def forest_key(scheme, seed, secret, at):
    """Return the forest key."""
    need_forest(scheme, at)
    roots = [grown_tree(scheme, seed, secret, at, number, 0)[0] for number in range(scheme.k)]
    return scheme.suite.digest(forest_roots_list(scheme, seed, at, roots))


def picks(scheme, data):
    """Return the index of the leaf that the data pick in each tree."""
    digits = bit_digits(data, scheme.a, scheme.k)
    return [(number << scheme.a) + digit for number, digit in enumerate(digits)]


def forest_sign(scheme, seed, secret, at, data):
    """Return the forest signature of the data."""
    need_forest(scheme, at)
    shown = []
    for number, pick in enumerate(picks(scheme, data)):
        path = grown_tree(scheme, seed, secret, at, number, pick - (number << scheme.a))[1]
        shown.append((forest_secret(scheme, seed, secret, at, pick), path))
    return shown


def is_forest_signature(scheme, shown):
    """Tell whether the value, which may be of any kind, has the form of a forest signature."""
    if not isinstance(shown, list) or len(shown) != scheme.k:
        return False
    return all([is_opened_leaf(scheme, part) for part in shown])


def is_opened_leaf(scheme, part):
    """Tell whether the value, which may be of any kind, is a secret with a path."""
    if not isinstance(part, tuple) or len(part) != 2:
        return False
    value, path = part
    return has_size(value, scheme.suite.size) and are_values(path, scheme.a, scheme.suite.size)


def opened_trees(scheme, seed, at, data, shown):
    """Return a tuple for each tree: its text function, its picked leaf, the index of it, and what is shown of it."""
    need_forest(scheme, at)
    indexes = picks(scheme, data)
    if not is_forest_signature(scheme, shown):
        raise Malformed("the value does not have the form of a forest signature")
    return [
        (forest_text(scheme, seed, at, number), indexes[number], value, path)
        for number, (value, path) in enumerate(shown)
    ]


def forest_candidate(scheme, seed, at, data, shown):
    """Return the forest key of which the forest signature is one of the data."""
    roots = []
    for text, index, value, path in opened_trees(scheme, seed, at, data, shown):
        leaf = leaf_digest(scheme, seed, at, index, value)
        roots.append(climb(scheme.suite, text, index % (1 << scheme.a), leaf, path))
    return scheme.suite.digest(forest_roots_list(scheme, seed, at, roots))


def forest_rows(scheme, seed, at, data, shown):
    """Return the rows of a forest signature, from the roots list on."""
    roots = []
    rows = []
    for text, index, value, path in opened_trees(scheme, seed, at, data, shown):
        last = forest_leaf_list(scheme, seed, at, index, value)
        climbed = climb_rows(scheme.suite, text, index % (1 << scheme.a), scheme.suite.digest(last), path)
        # A tree has a height of at least 1, so that the first row is that of its root.
        roots.append(scheme.suite.digest(list(climbed[0][0])))
        rows.extend(climbed + [row_of(last, [], False)])
    return [row_of(forest_roots_list(scheme, seed, at, roots), roots, False)] + rows
