"""Batch signatures as bytes."""

from sealgrove.batch import MOST_MESSAGES, batch_height, need_joint_opening, need_opening
from sealgrove.common import joined, pieces
from sealgrove.errors import Malformed
from sealgrove.joint import joint_places
from sealgrove.octets import is_bytes, number_of, u32, within


def need_form(holds):
    """Refuse a list that is not what was written for anything."""
    if not holds:
        raise Malformed("the list is no batch signature")


def batch_bytes(suite, opening, signature):
    """Return the byte list of an opening and of the signature of the head text."""
    need_opening(suite, opening)
    count, index, path = opening
    return u32(count) + u32(index) + joined(path) + signature


def batch_of(suite, data):
    """Return the opening and the signature of a byte list."""
    need_form(is_bytes(data) and len(data) >= 8)
    count = number_of(data[:4])
    index = number_of(data[4:8])
    need_form(within(count, 1, MOST_MESSAGES) and index < count)
    path, signature = path_and_rest(suite, data[8:], batch_height(count))
    return (count, index, path), signature


def path_and_rest(suite, data, count):
    """Return so many values from the beginning of the data, and what stands behind them."""
    need = count * suite.size
    need_form(len(data) >= need)
    return pieces(data[:need], suite.size), data[need:]


def joint_bytes(suite, opening, signature):
    """Return the byte list of a joint opening and of the signature of the head text."""
    need_joint_opening(suite, opening)
    count, places, path = opening
    numbers = [u32(place) for place in places]
    return u32(count) + u32(len(places)) + joined(numbers) + joined(path) + signature


def joint_of(suite, data):
    """Return the joint opening and the signature of a byte list."""
    need_form(is_bytes(data) and len(data) >= 8)
    count = number_of(data[:4])
    many = number_of(data[4:8])
    need_form(within(count, 1, MOST_MESSAGES) and 1 <= many <= count and len(data) >= 8 + 4 * many)
    behind = 8 + 4 * many
    places = [number_of(piece) for piece in pieces(data[8:behind], 4)]
    # That the last place is one of the batch bounds all of them, as joint_places asks for ascending ones.
    need_form(max(places) < count)
    nodes = joint_places(batch_height(count), places)
    path, signature = path_and_rest(suite, data[behind:], len(nodes))
    return (count, places, path), signature
