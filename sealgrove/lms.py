"""Tree keys: a tree over one-time keys, which signs as many messages as it has places."""

from sealgrove.coefficients import one_time_of
from sealgrove.common import LAST_U32, are_values, need_identifier, need_message, need_size, need_within
from sealgrove.errors import Malformed, OutOfRange, Refused
from sealgrove.octets import big, number_of, u8, u16, u32, within
from sealgrove.onetime import candidate, is_once_signature, one_time_key, sign_once
from sealgrove.tree import HIGHEST, climb, node_of

FIRST_CODE = 3892314112
LEAF_MARK = 33410
NODE_MARK = 33667
CHILD_MARK = 65534


def code_of_kind(suite, height):
    """Return the code of a kind."""
    if suite.core == 0 and suite.size == 32 and height in (5, 10, 15, 20, 25):
        return 4 + height // 5
    return FIRST_CODE + 65536 * suite.core + 256 * suite.size + height


class TreeKind:
    """What a tree key is made of: the parameters of its one-time keys, and its height."""

    def __init__(self, one_time, height):
        need_within(height, 0, HIGHEST, "the height")
        self.one_time = one_time
        self.suite = one_time.suite
        self.height = height
        self.code = code_of_kind(one_time.suite, height)
        self.places = 1 << height


def tree_kind_of(code, once_code):
    """Return the kind that has these two codes."""
    one_time = one_time_of(once_code)
    for height in range(HIGHEST + 1):
        if code_of_kind(one_time.suite, height) == code:
            return TreeKind(one_time, height)
    raise Malformed("there is no kind with these codes")


def need_node(identifier, number):
    """Refuse a node of some tree that is none."""
    need_identifier(identifier)
    need_within(number, 1, LAST_U32, "the number of the node")


def leaf_list(identifier, number, key):
    """Return the leaf list of a leaf."""
    need_node(identifier, number)
    return identifier + u32(number) + u16(LEAF_MARK) + key


def node_list(identifier, number, left, right):
    """Return the node list of a node that is no leaf."""
    need_node(identifier, number)
    return identifier + u32(number) + u16(NODE_MARK) + left + right


def need_key(kind, identifier, seed):
    """Refuse an identifier or a seed that is none."""
    need_identifier(identifier)
    need_size(seed, kind.suite.size, "the seed")


def need_key_place(kind, identifier, seed, q):
    """Refuse an identifier, a seed or a place that is none."""
    need_key(kind, identifier, seed)
    need_within(q, 0, kind.places - 1, "the place")


def leaf_value(kind, identifier, seed, q):
    """Return the value of the leaf of a place."""
    need_key_place(kind, identifier, seed, q)
    key = one_time_key(kind.one_time, identifier, q, seed)
    return kind.suite.digest(leaf_list(identifier, kind.places + q, key))


def join_nodes(kind, identifier, number, left, right):
    """Return the value of a node that is no leaf, for the values of the nodes below it."""
    need_identifier(identifier)
    need_within(number, 1, kind.places - 1, "the number of the node")
    need_size(left, kind.suite.size, "the left value")
    need_size(right, kind.suite.size, "the right value")
    return kind.suite.digest(node_list(identifier, number, left, right))


def node_value(kind, identifier, seed, number):
    """Return the value of a node."""
    need_key(kind, identifier, seed)
    need_within(number, 1, 2 * kind.places - 1, "the number of the node")
    depth = number.bit_length() - 1
    return node_of(
        kind.suite, lambda q: leaf_value(kind, identifier, seed, q), node_text(kind, identifier),
        kind.height - depth, number - (1 << depth),
    )


def tree_root(kind, identifier, seed):
    """Return the root of the key."""
    return node_value(kind, identifier, seed, 1)


def tree_path(kind, identifier, seed, q):
    """Return the path of a place."""
    need_key_place(kind, identifier, seed, q)
    number = kind.places + q
    return [node_value(kind, identifier, seed, (number >> level) ^ 1) for level in range(kind.height)]


def sign_tree(kind, identifier, seed, q, message, *, path=None):
    """Return the tree signature of a message at a place."""
    need_key_place(kind, identifier, seed, q)
    need_message(message)
    # A path that is handed over spares the work on all other leaves.
    values = tree_path(kind, identifier, seed, q) if path is None else [list(value) for value in path]
    return q, sign_once(kind.one_time, identifier, q, seed, message), values


def node_text(kind, identifier):
    """Return the text function of the tree."""
    need_identifier(identifier)
    own = list(identifier)
    return lambda level, index, left, right: node_list(own, (1 << (kind.height - level)) + index, left, right)


def need_tree_signature(kind, signature):
    """Refuse a signature that does not have the form of one."""
    if not is_tree_signature(kind, signature):
        raise OutOfRange("the signature does not have the form of a tree signature")


def is_tree_signature(kind, signature):
    """Tell whether the value, which may be of any kind, has the form of a tree signature."""
    if not isinstance(signature, tuple) or len(signature) != 3:
        return False
    q, once, path = signature
    if not within(q, 0, LAST_U32) or not is_once_signature(kind.one_time, once):
        return False
    return are_values(path, kind.height, kind.suite.size)


def tree_candidate(kind, identifier, message, signature):
    """Return the value that is compared with the root."""
    need_identifier(identifier)
    need_message(message)
    need_tree_signature(kind, signature)
    q, once, path = signature
    need_within(q, 0, kind.places - 1, "the number of the signature")
    key = candidate(kind.one_time, identifier, q, message, once)
    leaf = kind.suite.digest(leaf_list(identifier, kind.places + q, key))
    return climb(kind.suite, node_text(kind, identifier), q, leaf, path)


def accepts_tree(kind, identifier, root, message, signature):
    """Tell whether the signature of the message is accepted under the root."""
    need_identifier(identifier)
    need_size(root, kind.suite.size, "the root")
    need_message(message)
    need_tree_signature(kind, signature)
    if signature[0] >= kind.places:
        return False
    return tree_candidate(kind, identifier, message, signature) == root


def child(kind, identifier, seed, q):
    """Return the identifier and the seed of the child of a place."""
    need_key_place(kind, identifier, seed, q)
    level = identifier[7] + 1
    number = number_of(identifier[8:]) * kind.places + q
    if level > 255 or number >> 64 != 0:
        raise Refused("the identifier of the child has no room for its level or its number")
    data = identifier + u32(q) + u16(CHILD_MARK) + u8(255) + seed
    return identifier[:7] + u8(level) + big(number, 8), kind.suite.digest(data)
