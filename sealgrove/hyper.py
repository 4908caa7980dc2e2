"""Hyper signatures: one layer signature for each layer, each of the root of the tree below."""

from sealgrove.common import need_size, need_within
from sealgrove.errors import Malformed
from sealgrove.layers import is_layer_signature, layer_candidate, signed_layer
from sealgrove.octets import number_of
from sealgrove.plus import need_data


def cut_digest(scheme, digest):
    """Return the picked part of a message digest, and its place: a tree and a leaf."""
    need_size(digest, scheme.digest_size, "the digest")
    behind = scheme.picks_size + scheme.tree_size
    tree = number_of(digest[scheme.picks_size:behind]) % (1 << (scheme.height - scheme.rise))
    leaf = number_of(digest[behind:]) % (1 << scheme.rise)
    return digest[:scheme.picks_size], tree, leaf


def hyper_places(scheme, at):
    """Return the places (layer, tree, leaf) at which a hyper signature signs, from the layer 0 upward."""
    tree, leaf = at
    places = []
    for layer in range(scheme.layers):
        places.append((layer, tree, leaf))
        leaf = tree % (1 << scheme.rise)
        tree = tree >> scheme.rise
    return places


def need_hyper(scheme, at, data):
    """Refuse a place or data that are none."""
    tree, leaf = at
    need_within(tree, 0, (1 << (scheme.height - scheme.rise)) - 1, "the number of the tree")
    need_within(leaf, 0, (1 << scheme.rise) - 1, "the leaf")
    need_data(scheme, data)


def hyper_sign(scheme, seed, secret, at, data):
    """Return the hyper signature of the data."""
    need_hyper(scheme, at, data)
    found = []
    signed = data
    for place in hyper_places(scheme, at):
        signed, signature = signed_layer(scheme, seed, secret, place, signed)
        found.append(signature)
    return found


def is_hyper_signature(scheme, signature):
    """Tell whether the value, which may be of any kind, has the form of a hyper signature."""
    if not isinstance(signature, list) or len(signature) != scheme.layers:
        return False
    return all([is_layer_signature(scheme, part) for part in signature])


def hyper_data(scheme, seed, at, data, signature):
    """Return what each layer signs, from the layer 0 upward, and behind it the candidate of the highest one."""
    need_hyper(scheme, at, data)
    if not is_hyper_signature(scheme, signature):
        raise Malformed("the value does not have the form of a hyper signature")
    signed = [list(data)]
    for place, part in zip(hyper_places(scheme, at), signature):
        signed.append(layer_candidate(scheme, seed, place, signed[-1], part))
    return signed


def hyper_candidate(scheme, seed, at, data, signature):
    """Return the root of the highest layer under which the signature is one of the data."""
    return hyper_data(scheme, seed, at, data, signature)[-1]
