"""The byte lists that are digested for the place of a one-time key, and walks along its chains."""

from sealgrove.common import joined, need_place, need_within
from sealgrove.octets import u8, u16, u32

ENDS_MARK = 32896
MESSAGE_MARK = 33153
RANDOMIZER_MARK = 65533
SECRET_STEP = 255


def need_chain(identifier, q, chain):
    """Refuse a chain of a place that is none."""
    need_place(identifier, q)
    need_within(chain, 0, 65535, "the chain")


def chain_head(identifier, q, chain):
    """Return what stands at the beginning of all lists of a chain."""
    return identifier + u32(q) + u16(chain)


def step_list(identifier, q, chain, step, value):
    """Return the step list of a chain at a step, for a value."""
    need_chain(identifier, q, chain)
    need_within(step, 0, 255, "the step")
    return chain_head(identifier, q, chain) + u8(step) + value


def secret_list(identifier, q, chain, seed):
    """Return the list whose digest is the secret of a chain."""
    need_chain(identifier, q, chain)
    return chain_head(identifier, q, chain) + u8(SECRET_STEP) + seed


def randomizer_list(identifier, q, seed):
    """Return the list whose digest is the randomizer."""
    need_place(identifier, q)
    return identifier + u32(q) + u16(RANDOMIZER_MARK) + u8(SECRET_STEP) + seed


def ends_list(identifier, q, ends):
    """Return the ends list."""
    need_place(identifier, q)
    return identifier + u32(q) + u16(ENDS_MARK) + joined(ends)


def message_list(identifier, q, randomizer, message):
    """Return the message list."""
    need_place(identifier, q)
    return identifier + u32(q) + u16(MESSAGE_MARK) + randomizer + message


def walk(suite, identifier, q, chain, start, stop, value):
    """Return the value of a chain at the step stop, for its value at the step start."""
    need_chain(identifier, q, chain)
    need_within(stop, 0, 255, "the last step")
    need_within(start, 0, stop, "the first step")
    # The list of each step is built upon one beginning, since walks take most of the time.
    head = chain_head(identifier, q, chain)
    reached = list(value)
    for step in range(start, stop):
        reached = suite.digest(head + [step] + reached)
    return reached
