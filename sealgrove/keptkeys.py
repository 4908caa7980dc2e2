"""Kept keys: tree keys that sign with kept paths."""

from sealgrove.coefficients import OneTime
from sealgrove.common import need_message
from sealgrove.errors import Malformed
from sealgrove.kept import KeptPath, kept_of
from sealgrove.lms import TreeKind, leaf_value, need_key, node_text, sign_tree
from sealgrove.suites import Suite
from sealgrove.tree import climb


class KeptKey:
    """A tree key that stands at a place, with the kept path of its tree."""

    def __init__(self, kind, identifier, seed, *, place=0, schedule="even"):
        need_key(kind, identifier, seed)
        self._kind = kind
        self._identifier = list(identifier)
        self._seed = list(seed)
        self.way = KeptPath(
            kind.suite, kind.height, leaf_function(kind, identifier, seed), node_text(kind, identifier),
            place=place, schedule=schedule,
        )

    def resume(self, kind, identifier, seed, way):
        """Become another key that goes on with this kept path."""
        self._kind = kind
        self._identifier = list(identifier)
        self._seed = list(seed)
        self.way = way

    def sign(self, message):
        """Return the tree signature of the message at the place of the key."""
        return sign_tree(
            self._kind, self._identifier, self._seed, self.way.place, message, path=self.way.path(),
        )

    def sign_at(self, place, message):
        """Go to the place; return the tree signature of the message there."""
        self.way.need_goal(place)
        need_message(message)
        self.way.go_to(place)
        return self.sign(message)

    def root(self):
        """Return the root, from the leaf of the place and the path."""
        place = self.way.place
        leaf = leaf_value(self._kind, self._identifier, self._seed, place)
        return climb(self._kind.suite, node_text(self._kind, self._identifier), place, leaf, self.way.path())

    def state(self):
        """Return the state of the kept path."""
        return self.way.state()


def leaf_function(kind, identifier, seed):
    """Return the leaf function of the tree of a key."""
    own = list(identifier)
    secret = list(seed)
    return lambda q: leaf_value(kind, own, secret, q)


def kept_key_of(kind, identifier, seed, data):
    """Return the kept key that goes on from the state of its kept path."""
    need_key(kind, identifier, seed)
    way = kept_of(kind.suite, leaf_function(kind, identifier, seed), node_text(kind, identifier), data)
    if way.height != kind.height:
        raise Malformed("the state is that of a tree of another height")
    # A new kept key makes its whole tree, and reading makes none: so it is begun with the least key that there is.
    key = KeptKey(TreeKind(OneTime(Suite(1, 1), 1), 0), [0] * 16, [0])
    key.resume(kind, identifier, seed, way)
    return key
