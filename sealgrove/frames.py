"""Frames: messages with a context, as they are signed."""

from sealgrove.common import has_size
from sealgrove.errors import Malformed, OutOfRange
from sealgrove.octets import is_bytes
from sealgrove.stateless import accepts_raw, sign_raw

PURE = 0
DIGESTED = 1
LONGEST_CONTEXT = 255

# It says in the form of the published standard that the digest behind it is one of SHA-256.
DIGEST_MARK = (6, 9, 96, 134, 72, 1, 101, 3, 4, 2, 1)
DIGEST_SIZE = 32


def framed_context(way, context):
    """Return what stands before the message: the way and the context."""
    if len(context) > LONGEST_CONTEXT:
        raise OutOfRange("the context has more than 255 bytes")
    return [way, len(context)] + context


def pure_frame(context, message):
    """Return the frame that holds the message itself."""
    return framed_context(PURE, context) + message


def digested_frame(suite, context, message):
    """Return the frame that holds the whole digest of the message."""
    return framed_context(DIGESTED, context) + list(DIGEST_MARK) + suite.whole(message)


def frame_parts(data):
    """Return the way, the context, and the message or its whole digest."""
    if not is_bytes(data) or len(data) < 2 or len(data) < 2 + data[1]:
        raise Malformed("the context does not lie within the list")
    behind = 2 + data[1]
    context = data[2:behind]
    rest = data[behind:]
    if data[0] == PURE:
        return "pure", context, rest
    mark = len(DIGEST_MARK)
    if data[0] != DIGESTED or tuple(rest[:mark]) != DIGEST_MARK or not has_size(rest[mark:], DIGEST_SIZE):
        raise Malformed("the list is no frame")
    return "digested", context, rest[mark:]


def framed(scheme, context, digested, message):
    """Return the frame of a message in one of the two ways."""
    if digested:
        return digested_frame(scheme.suite, context, message)
    return pure_frame(context, message)


def sign_framed(scheme, key, message, *, context, digested=False, extra=None):
    """Return the signature of the frame of a message."""
    return sign_raw(scheme, key, framed(scheme, context, digested, message), extra)


def accepts_framed(scheme, public, message, signature, *, context, digested=False):
    """Tell whether the signature is accepted for the frame of the message."""
    return accepts_raw(scheme, public, framed(scheme, context, digested, message), signature)
