"""One-time keys with addresses."""

from sealgrove.address import CHAIN_SECRET, ENDS, STEP
from sealgrove.common import are_values, chains_rows, joined, need_size, need_within, row_of
from sealgrove.errors import Malformed
from sealgrove.hashes import addressed, addressed_list
from sealgrove.schemes import need_leaf


def need_plus(scheme, at):
    """Refuse a place that is none."""
    layer, tree, leaf = at
    need_leaf(scheme, layer, tree, leaf)


def need_plus_chain(scheme, at, chain):
    """Refuse a place or a chain that is none."""
    need_plus(scheme, at)
    need_within(chain, 0, scheme.one_time.p - 1, "the chain")


def plus_address(at, use, chain, step):
    """Return an address of the key at a place."""
    layer, tree, leaf = at
    return layer, tree, use, leaf, chain, step


def plus_step_list(scheme, seed, at, chain, step, value):
    """Return the step list of a chain at a step, for a value."""
    need_plus_chain(scheme, at, chain)
    need_within(step, 0, scheme.one_time.top - 1, "the step")
    return addressed_list(scheme.suite, seed, plus_address(at, STEP, chain, step), value)


def plus_ends_list(scheme, seed, at, ends):
    """Return the ends list."""
    need_plus(scheme, at)
    return addressed_list(scheme.suite, seed, plus_address(at, ENDS, 0, 0), joined(ends))


def plus_run(scheme, seed, at, chain, value, start, stop):
    """Return the value of a chain at the step stop, for its value at the step start."""
    need_plus_chain(scheme, at, chain)
    need_within(stop, 0, scheme.one_time.top, "the last step")
    need_within(start, 0, stop, "the first step")
    # What stands before the step, which is one byte at most, is built once, since runs take most of the time.
    head = addressed_list(scheme.suite, seed, plus_address(at, STEP, chain, 0), [])[:-1]
    reached = list(value)
    for step in range(start, stop):
        reached = scheme.suite.digest(head + [step] + reached)
    return reached


def plus_value(scheme, seed, secret, at, chain, step):
    """Return the value of the key's own chain at a step."""
    need_plus_chain(scheme, at, chain)
    need_within(step, 0, scheme.one_time.top, "the step")
    first = addressed(scheme.suite, seed, plus_address(at, CHAIN_SECRET, chain, 0), secret)
    return plus_run(scheme, seed, at, chain, first, 0, step)


def plus_key(scheme, seed, secret, at):
    """Return the key at a place."""
    need_plus(scheme, at)
    one_time = scheme.one_time
    reached = [plus_value(scheme, seed, secret, at, chain, one_time.top) for chain in range(one_time.p)]
    return scheme.suite.digest(plus_ends_list(scheme, seed, at, reached))


def need_data(scheme, data):
    """Refuse data that no digits are made of."""
    need_size(data, scheme.suite.size, "the data")


def plus_sign(scheme, seed, secret, at, data):
    """Return the plus signature of the data."""
    need_plus(scheme, at)
    need_data(scheme, data)
    digits = scheme.one_time.digits(data)
    return [plus_value(scheme, seed, secret, at, chain, digit) for chain, digit in enumerate(digits)]


def is_plus_signature(scheme, values):
    """Tell whether the values, which may be of any kind, have the form of a plus signature."""
    return are_values(values, scheme.one_time.p, scheme.suite.size)


def need_plus_signature(scheme, at, data, values):
    """Refuse a place or data that are none, and then values that do not have the form of a signature."""
    need_plus(scheme, at)
    need_data(scheme, data)
    if not is_plus_signature(scheme, values):
        raise Malformed("the values do not have the form of a plus signature")


def plus_candidate(scheme, seed, at, data, values):
    """Return the key of which the values are a signature of the data."""
    need_plus_signature(scheme, at, data, values)
    digits = scheme.one_time.digits(data)
    reached = [
        plus_run(scheme, seed, at, chain, value, digits[chain], scheme.one_time.top)
        for chain, value in enumerate(values)
    ]
    return scheme.suite.digest(plus_ends_list(scheme, seed, at, reached))


def plus_rows(scheme, seed, at, data, values):
    """Return the rows of a plus signature, from the ends list on."""
    need_plus_signature(scheme, at, data, values)
    reached, steps = chains_rows(
        scheme.suite, lambda chain, step, value: plus_step_list(scheme, seed, at, chain, step, value),
        scheme.one_time.digits(data), scheme.one_time.top, values,
    )
    return [row_of(plus_ends_list(scheme, seed, at, reached), reached, False)] + steps
