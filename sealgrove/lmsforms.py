"""Forms of the public keys and signatures of tree keys, and the rows of signatures that are accepted."""

from sealgrove.common import has_size, joined, need_identifier, need_message, need_size, pieces, row_of
from sealgrove.errors import Malformed, OutOfRange
from sealgrove.lms import accepts_tree, leaf_list, need_tree_signature, node_text, tree_kind_of
from sealgrove.octets import is_bytes, number_of, u32
from sealgrove.onetime import candidate, once_rows, read_once, write_once
from sealgrove.tree import climb_rows


def public_size(kind):
    """Return how many bytes the form of a public key has."""
    return 24 + kind.suite.size


def signature_size(kind):
    """Return how many bytes the form of a tree signature has."""
    return 12 + kind.suite.size * (kind.one_time.p + 1 + kind.height)


def write_public(kind, identifier, root):
    """Return the form of a public key."""
    need_identifier(identifier)
    need_size(root, kind.suite.size, "the root")
    return u32(kind.code) + u32(kind.one_time.code) + identifier + root


def read_public(data):
    """Return the kind, the identifier and the root whose form the list is."""
    if not is_bytes(data):
        raise Malformed("the form of a public key is a byte list")
    kind = tree_kind_of(number_of(data[:4]), number_of(data[4:8]))
    if len(data) != public_size(kind):
        raise Malformed("the form of the public key has a wrong length")
    return kind, data[8:24], data[24:]


def write_tree(kind, signature):
    """Return the form of a tree signature."""
    need_tree_signature(kind, signature)
    q, once, path = signature
    if q >= kind.places:
        raise OutOfRange("the number of the signature is no place")
    return u32(q) + write_once(kind.one_time, once) + u32(kind.code) + joined(path)


def read_tree(kind, data):
    """Return the tree signature of this kind whose form the list is."""
    if not has_size(data, signature_size(kind)):
        raise Malformed("the form of the signature has a wrong length")
    q = number_of(data[:4])
    behind = len(data) - kind.suite.size * kind.height
    once = read_once(kind.one_time, data[4:behind - 4])
    if q >= kind.places or number_of(data[behind - 4:behind]) != kind.code:
        raise Malformed("the list is no form of a signature of this kind")
    return q, once, pieces(data[behind:], kind.suite.size)


def verify_tree(public, message, data):
    """Tell whether a form of a public key accepts a form of a tree signature for the message."""
    need_message(message)
    try:
        kind, identifier, root = read_public(public)
        signature = read_tree(kind, data)
    except Malformed:
        return False
    return accepts_tree(kind, identifier, root, message, signature)


def lms_rows(public, message, data):
    """Return the rows of an accepted tree signature, or None if it is not accepted."""
    if not verify_tree(public, message, data):
        return None
    kind, identifier, _ = read_public(public)
    return tree_rows(kind, identifier, message, read_tree(kind, data))


def tree_rows(kind, identifier, message, signature):
    """Return the rows of a tree signature, from the root to the message list."""
    q, once, path = signature
    key = candidate(kind.one_time, identifier, q, message, once)
    data = leaf_list(identifier, kind.places + q, key)
    above = climb_rows(kind.suite, node_text(kind, identifier), q, kind.suite.digest(data), path)
    return above + [row_of(data, [key], False)] + once_rows(kind.one_time, identifier, q, message, once)
