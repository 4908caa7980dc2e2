"""Layers: trees over one-time keys with addresses."""

from sealgrove.address import NODE
from sealgrove.common import are_values, need_within
from sealgrove.errors import Malformed
from sealgrove.hashes import addressed_list
from sealgrove.plus import is_plus_signature, need_data, need_plus, plus_candidate, plus_key, plus_rows, plus_sign
from sealgrove.schemes import need_tree
from sealgrove.tree import climb, climb_rows, grown


def layer_node_list(scheme, seed, at, level, index, left, right):
    """Return the node list of a node above the leaves."""
    layer, tree = at
    need_tree(layer, tree)
    need_within(level, 1, scheme.rise, "the level")
    need_within(index, 0, (1 << (scheme.rise - level)) - 1, "the index")
    return addressed_list(scheme.suite, seed, (layer, tree, NODE, 0, level, index), left + right)


def layer_text(scheme, seed, at):
    """Return the text function of the layer tree."""
    return lambda level, index, left, right: layer_node_list(scheme, seed, at, level, index, left, right)


def grown_layer(scheme, seed, secret, at, place):
    """Return the root of the layer tree, and the path of a leaf."""
    layer, tree = at
    root, path, _ = grown(
        scheme.suite, scheme.rise, lambda leaf: plus_key(scheme, seed, secret, (layer, tree, leaf)),
        layer_text(scheme, seed, at), place,
    )
    return root, path


def layer_root(scheme, seed, secret, at):
    """Return the root of the layer tree."""
    layer, tree = at
    need_tree(layer, tree)
    return grown_layer(scheme, seed, secret, at, 0)[0]


def layer_sign(scheme, seed, secret, at, data):
    """Return the layer signature of the data."""
    return signed_layer(scheme, seed, secret, at, data)[1]


def signed_layer(scheme, seed, secret, at, data):
    """Return the root of the layer tree, and the layer signature of the data."""
    need_plus(scheme, at)
    need_data(scheme, data)
    layer, tree, leaf = at
    root, path = grown_layer(scheme, seed, secret, (layer, tree), leaf)
    return root, (plus_sign(scheme, seed, secret, at, data), path)


def is_layer_signature(scheme, signature):
    """Tell whether the value, which may be of any kind, has the form of a layer signature."""
    if not isinstance(signature, tuple) or len(signature) != 2:
        return False
    values, path = signature
    return is_plus_signature(scheme, values) and are_values(path, scheme.rise, scheme.suite.size)


def need_layer_signature(scheme, at, data, signature):
    """Refuse a place or data that are none, and then what does not have the form of a signature."""
    need_plus(scheme, at)
    need_data(scheme, data)
    if not is_layer_signature(scheme, signature):
        raise Malformed("the value does not have the form of a layer signature")


def layer_candidate(scheme, seed, at, data, signature):
    """Return the root of the layer tree in which the signature is one of the data."""
    need_layer_signature(scheme, at, data, signature)
    layer, tree, leaf = at
    values, path = signature
    key = plus_candidate(scheme, seed, at, data, values)
    return climb(scheme.suite, layer_text(scheme, seed, (layer, tree)), leaf, key, path)


def layer_rows(scheme, seed, at, data, signature):
    """Return the rows of a layer signature, from the root on."""
    need_layer_signature(scheme, at, data, signature)
    layer, tree, leaf = at
    values, path = signature
    rows = plus_rows(scheme, seed, at, data, values)
    key = scheme.suite.digest(list(rows[0][0]))
    return climb_rows(scheme.suite, layer_text(scheme, seed, (layer, tree)), leaf, key, path) + rows
