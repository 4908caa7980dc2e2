"""Stateless keys: they sign any number of messages, and keep nothing."""

from sealgrove.common import has_size, joined, need_size, pieces
from sealgrove.errors import Malformed
from sealgrove.forest import forest_candidate, forest_rows, forest_sign, picks
from sealgrove.hashes import message_digest, randomizer_of
from sealgrove.hyper import cut_digest, hyper_data, hyper_places, hyper_sign
from sealgrove.layers import layer_root, layer_rows
from sealgrove.parts import joined_parts, parts_of


def key_root(scheme, seed, secret):
    """Return the root of a key: that of its highest layer tree."""
    return layer_root(scheme, seed, secret, (scheme.layers - 1, 0))


def stateless_key(scheme, secret, message_key, seed):
    """Return the bytes of the secret key."""
    need_size(secret, scheme.suite.size, "the secret seed")
    need_size(message_key, scheme.suite.size, "the message key")
    need_size(seed, scheme.suite.size, "the seed")
    return secret + message_key + seed + key_root(scheme, seed, secret)


def need_secret_key(scheme, key):
    """Refuse a byte list that is no secret key."""
    if not has_size(key, scheme.secret_size):
        raise Malformed("the secret key has a wrong length")


def need_public_key(scheme, public):
    """Refuse a byte list that is no public key."""
    if not has_size(public, scheme.public_size):
        raise Malformed("the public key has a wrong length")


def public_of(scheme, key):
    """Return the bytes of the public key of a secret key."""
    need_secret_key(scheme, key)
    return key[scheme.public_size:]


def key_holds(scheme, key):
    """Tell whether the root in the secret key is that of its seeds."""
    need_secret_key(scheme, key)
    secret, _, seed, root = pieces(key, scheme.suite.size)
    return key_root(scheme, seed, secret) == root


def message_parts(scheme, public, message, randomizer):
    """Return the picked part and the place (tree, leaf) of a message."""
    seed, root = pieces(public, scheme.suite.size)
    digest = message_digest(scheme.suite, randomizer, seed, root, message, scheme.digest_size)
    picked, tree, leaf = cut_digest(scheme, digest)
    return picked, (tree, leaf)


def sign_raw(scheme, key, message, extra=None):
    """Return the bytes of the signature of a message."""
    need_secret_key(scheme, key)
    if extra is not None:
        need_size(extra, scheme.suite.size, "the extra")
    secret, message_key, seed, _ = pieces(key, scheme.suite.size)
    randomizer = randomizer_of(scheme.suite, message_key, seed if extra is None else extra, message)
    picked, at = message_parts(scheme, public_of(scheme, key), message, randomizer)
    shown = forest_sign(scheme, seed, secret, at, picked)
    # What the forest signed has the forest key as its candidate, and that is found with less work.
    data = forest_candidate(scheme, seed, at, picked, shown)
    return joined_parts(scheme, (randomizer, shown, hyper_sign(scheme, seed, secret, at, data)))


def signed_data(scheme, public, message, signature):
    """Return what the layers sign, from the layer 0 upward, and behind it the root that the signature leads to."""
    randomizer, shown, hyper = parts_of(scheme, signature)
    picked, at = message_parts(scheme, public, message, randomizer)
    seed = public[:scheme.suite.size]
    data = forest_candidate(scheme, seed, at, picked, shown)
    return hyper_data(scheme, seed, at, data, hyper)


def accepts_raw(scheme, public, message, signature):
    """Tell whether the signature of the message is accepted under the public key."""
    need_public_key(scheme, public)
    if not has_size(signature, scheme.signature_size):
        return False
    return signed_data(scheme, public, message, signature)[-1] == public[scheme.suite.size:]


def things_of(scheme, public, message, signature):
    """Return the places of the layers and what is signed there, from the highest layer down."""
    need_public_key(scheme, public)
    signed = signed_data(scheme, public, message, signature)
    tree, leaf, _ = shown_leaves(scheme, public, message, signature)
    things = [(place, tuple(data)) for place, data in zip(hyper_places(scheme, (tree, leaf)), signed)]
    return things[::-1]


def shown_leaves(scheme, public, message, signature):
    """Return the place of the forest, and the indexes of its leaves that the signature shows."""
    need_public_key(scheme, public)
    randomizer = parts_of(scheme, signature)[0]
    picked, at = message_parts(scheme, public, message, randomizer)
    tree, leaf = at
    return tree, leaf, picks(scheme, picked)


def stateless_rows(scheme, public, message, signature):
    """Return the rows of an accepted signature, or None if it is not accepted."""
    if not accepts_raw(scheme, public, message, signature):
        return None
    randomizer, shown, hyper = parts_of(scheme, signature)
    picked, at = message_parts(scheme, public, message, randomizer)
    seed = public[:scheme.suite.size]
    signed = signed_data(scheme, public, message, signature)
    found = [forest_rows(scheme, seed, at, picked, shown)]
    for place, data, part in zip(hyper_places(scheme, at), signed, hyper):
        found.append(layer_rows(scheme, seed, place, data, part))
    highest = found.pop()
    return highest + joined([loosened(rows) for rows in found[::-1]])


def loosened(rows):
    """Return the rows, the first of which is signed by the digits of a plus signature."""
    data, items, _ = rows[0]
    return [(data, items, True)] + rows[1:]
