"""Schemes of stateless signatures: their numbers and sizes, and the two that have names."""

from sealgrove.coefficients import OneTime
from sealgrove.common import need_within
from sealgrove.errors import NotThere, OutOfRange
from sealgrove.suites import suite_named

LAST_LAYER = 255
LAST_TREE = 18446744073709551615
MOST_BITS = 64

# The suite, and then the other parameters of a scheme in their order.
PUBLISHED = {
    "sha2-128s": ("sha-16", 4, 12, 14, 9, 7),
    "sha2-128f": ("sha-16", 4, 6, 33, 3, 22),
}


def bytes_for(bits):
    """Return how many bytes hold so many bits."""
    return (bits + 7) // 8


class Stateless:
    """A scheme: a suite, a width, k trees of height a in a forest, and layers of trees of height rise."""

    def __init__(self, suite, width, a, k, rise, layers):
        self.one_time = OneTime(suite, width)
        need_within(a, 1, 24, "the height of the trees of a forest")
        need_within(k, 1, 64, "the number of the trees of a forest")
        need_within(rise, 1, 20, "the height of the trees of a layer")
        need_within(layers, 1, 32, "the number of layers")
        if rise * (layers - 1) > MOST_BITS:
            raise OutOfRange("the layers above the lowest one are too high together")
        self.suite = suite
        self.width = width
        self.a = a
        self.k = k
        self.rise = rise
        self.layers = layers
        self.height = rise * layers
        self.picks_size = bytes_for(k * a)
        self.tree_size = bytes_for(self.height - rise)
        self.leaf_size = bytes_for(rise)
        self.digest_size = self.picks_size + self.tree_size + self.leaf_size
        self.public_size = 2 * suite.size
        self.secret_size = 4 * suite.size
        self.signature_size = suite.size * (1 + k * (a + 1) + self.height + layers * self.one_time.p)


def scheme_named(name):
    """Return the published scheme with this name."""
    if name not in PUBLISHED:
        raise NotThere("there is no published scheme with this name")
    suite, width, a, k, rise, layers = PUBLISHED[name]
    return Stateless(suite_named(suite), width, a, k, rise, layers)


def need_tree(layer, tree):
    """Refuse a place of a tree that is none."""
    need_within(layer, 0, LAST_LAYER, "the layer")
    need_within(tree, 0, LAST_TREE, "the number of the tree")


def need_leaf(scheme, layer, tree, leaf):
    """Refuse a place of a leaf that is none."""
    need_tree(layer, tree)
    need_within(leaf, 0, (1 << scheme.rise) - 1, "the leaf")
