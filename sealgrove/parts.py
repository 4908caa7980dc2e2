"""The parts of stateless signatures."""

from sealgrove.common import has_size, joined, pieces
from sealgrove.errors import Malformed
from sealgrove.forest import is_forest_signature
from sealgrove.hyper import is_hyper_signature


def parts_of(scheme, signature):
    """Return the randomizer, the forest signature and the hyper signature of a byte list."""
    if not has_size(signature, scheme.signature_size):
        raise Malformed("the signature has a wrong length")
    values = pieces(signature, scheme.suite.size)
    behind = 1 + scheme.k * (scheme.a + 1)
    shown = [(part[0], part[1:]) for part in pieces(values[1:behind], scheme.a + 1)]
    p = scheme.one_time.p
    hyper = [(part[:p], part[p:]) for part in pieces(values[behind:], p + scheme.rise)]
    return values[0], shown, hyper


def is_parts(scheme, parts):
    """Tell whether the value, which may be of any kind, has the form of the parts of a signature."""
    if not isinstance(parts, tuple) or len(parts) != 3:
        return False
    randomizer, shown, hyper = parts
    if not has_size(randomizer, scheme.suite.size):
        return False
    return is_forest_signature(scheme, shown) and is_hyper_signature(scheme, hyper)


def joined_parts(scheme, parts):
    """Return the byte list of a randomizer, a forest signature and a hyper signature."""
    if not is_parts(scheme, parts):
        raise Malformed("the value does not have the form of the parts of a signature")
    randomizer, shown, hyper = parts
    trees = [value + joined(path) for value, path in shown]
    layers = [joined(values) + joined(path) for values, path in hyper]
    return randomizer + joined(trees) + joined(layers)
