"""Batches: one head text stands for many messages, and each of them can be opened alone."""

from sealgrove.common import need_within, row_of
from sealgrove.errors import Malformed
from sealgrove.joint import joint_climb, joint_climb_rows, joint_path, joint_places
from sealgrove.octets import u32
from sealgrove.tree import climb, climb_rows, need_values, path_of, root_of

MOST_MESSAGES = 65536


def batch_height(count):
    """Return the height of a batch of so many messages."""
    need_within(count, 1, MOST_MESSAGES, "the number of messages")
    return (count - 1).bit_length()


def item_text(count, index, message):
    """Return the text of a message."""
    return [0] + u32(count) + u32(index) + message


def blank_text(count, index):
    """Return the text of a place that has no message."""
    return [1] + u32(count) + u32(index)


def fork_text(level, index, left, right):
    """Return the text of a node above the leaves."""
    return [2] + u32(level) + u32(index) + left + right


def head_text(count, root):
    """Return the text that is signed for the batch."""
    return [3] + u32(count) + root


def batch_leaves(suite, messages):
    """Return the values of all leaves, those of the blank ones, too."""
    count = len(messages)
    places = 1 << batch_height(count)
    texts = [item_text(count, index, message) for index, message in enumerate(messages)]
    texts.extend([blank_text(count, index) for index in range(count, places)])
    return [suite.digest(text) for text in texts]


def batch_head(suite, messages):
    """Return the head text of the batch."""
    return head_text(len(messages), root_of(suite, batch_leaves(suite, messages), fork_text))


def need_indexes(count, indexes):
    """Refuse a number of messages that no batch has, and then indexes of no messages of the batch."""
    need_within(count, 1, MOST_MESSAGES, "the number of messages")
    for index in indexes:
        need_within(index, 0, count - 1, "the index of a message")


def batch_opening(suite, messages, index):
    """Return the opening of one message of the batch."""
    count = len(messages)
    need_indexes(count, [index])
    return count, index, path_of(suite, batch_leaves(suite, messages), fork_text, index)


def need_opening(suite, opening):
    """Refuse an opening that is none."""
    count, index, path = opening
    need_indexes(count, [index])
    if len(path) != batch_height(count):
        raise Malformed("the path has another length than those of the batch")
    need_values(suite, path)


def opened_head(suite, message, opening):
    """Return the head text of the batch to which the opening says that the message belongs."""
    need_opening(suite, opening)
    count, index, path = opening
    leaf = suite.digest(item_text(count, index, message))
    return head_text(count, climb(suite, fork_text, index, leaf, path))


def batch_rows(suite, message, opening):
    """Return the rows of a message and its opening."""
    need_opening(suite, opening)
    count, index, path = opening
    data = item_text(count, index, message)
    return climb_rows(suite, fork_text, index, suite.digest(data), path) + [row_of(data, [], False)]


def joint_opening(suite, messages, places):
    """Return the joint opening of several messages of the batch."""
    count = len(messages)
    need_joint_places(count, places)
    return count, list(places), joint_path(suite, batch_leaves(suite, messages), fork_text, places)


def need_joint_places(count, places):
    """Refuse places that are not different, ascending indexes of messages; return the nodes of their joint path."""
    need_indexes(count, places)
    return joint_places(batch_height(count), places)


def need_joint_opening(suite, opening):
    """Refuse a joint opening that is none."""
    count, places, path = opening
    nodes = need_joint_places(count, places)
    if len(path) != len(nodes):
        raise Malformed("the joint path has more or fewer values than are needed")
    need_values(suite, path)


def opened_texts(suite, messages, opening):
    """Return the item texts of the messages of a joint opening, after a look at the opening."""
    need_joint_opening(suite, opening)
    count, places, _ = opening
    if len(messages) != len(places):
        raise Malformed("there are not as many messages as places")
    return [item_text(count, place, message) for place, message in zip(places, messages)]


def items_of(suite, places, texts):
    """Return the pairs from which the joint climb begins."""
    return [(place, suite.digest(text)) for place, text in zip(places, texts)]


def joint_head(suite, messages, opening):
    """Return the head text of the batch to which the joint opening says that the messages belong."""
    texts = opened_texts(suite, messages, opening)
    count, places, path = opening
    items = items_of(suite, places, texts)
    return head_text(count, joint_climb(suite, fork_text, batch_height(count), items, path))


def joint_rows(suite, messages, opening):
    """Return the rows of messages and their joint opening."""
    texts = opened_texts(suite, messages, opening)
    count, places, path = opening
    items = items_of(suite, places, texts)
    rows = joint_climb_rows(suite, fork_text, batch_height(count), items, path)
    return rows + [row_of(text, [], False) for text in texts]
