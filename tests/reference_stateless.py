"""The points of part 6, and of the stateless signatures of part 7, once more, as plainly as possible.

A scheme is here a tuple (name of the suite, w, a, k, rise, layers).
"""

from reference import bits, digest, digits, mac, num, parameters, row, size, whole


def stretch(name, data, count):
    blocks = [whole(name, data + num(k, 4)) for k in range(count // 32 + 1)]
    return sum(blocks, [])[:count]


def long_form(address):
    return sum([num(number, count) for number, count in zip(address, (4, 12, 4, 4, 4, 4))], [])


def short_form(address):
    return sum([num(number, count) for number, count in zip(address, (1, 8, 1, 4, 4, 4))], [])


def addressed_list(name, seed, address, data):
    return seed + [0] * (64 - size(name)) + short_form(address) + data


def addressed(name, seed, address, data):
    return digest(name, addressed_list(name, seed, address, data))


def randomizer(name, key, extra, message):
    return mac(name, key, extra + message)[:size(name)]


def message_digest(name, found, seed, root, message, count):
    return stretch(name, found + seed + whole(name, found + seed + root + message), count)


def bit_digits(data, b, count):
    text = bits(data)
    return [int(text[k * b:k * b + b], 2) for k in range(count)]


# One-time keys with addresses.


def plus_step(scheme, seed, at, chain, step, value):
    layer, tree, leaf = at
    return addressed_list(scheme[0], seed, (layer, tree, 0, leaf, chain, step), value)


def plus_ends(scheme, seed, at, ends):
    layer, tree, leaf = at
    return addressed_list(scheme[0], seed, (layer, tree, 1, leaf, 0, 0), sum(ends, []))


def plus_run(scheme, seed, at, chain, value, start, stop):
    for step in range(start, stop):
        value = digest(scheme[0], plus_step(scheme, seed, at, chain, step, value))
    return value


def plus_value(scheme, seed, secret, at, chain, step):
    layer, tree, leaf = at
    value = addressed(scheme[0], seed, (layer, tree, 5, leaf, chain, 0), secret)
    return plus_run(scheme, seed, at, chain, value, 0, step)


def plus_key(scheme, seed, secret, at):
    top, p = parameters(*scheme[:2])[0], parameters(*scheme[:2])[4]
    ends = [plus_value(scheme, seed, secret, at, chain, top) for chain in range(p)]
    return digest(scheme[0], plus_ends(scheme, seed, at, ends))


def plus_sign(scheme, seed, secret, at, data):
    found = digits(*scheme[:2], data)
    return [plus_value(scheme, seed, secret, at, chain, d) for chain, d in enumerate(found)]


def plus_reached(scheme, seed, at, data, values):
    found, top = digits(*scheme[:2], data), 2 ** scheme[1] - 1
    return [plus_run(scheme, seed, at, chain, value, found[chain], top) for chain, value in enumerate(values)]


def plus_candidate(scheme, seed, at, data, values):
    return digest(scheme[0], plus_ends(scheme, seed, at, plus_reached(scheme, seed, at, data, values)))


def plus_rows(scheme, seed, at, data, values):
    found, reached = digits(*scheme[:2], data), plus_reached(scheme, seed, at, data, values)
    rows = [row(plus_ends(scheme, seed, at, reached), reached)]
    for chain, value in enumerate(values):
        upward = []
        for step in range(found[chain], 2 ** scheme[1] - 1):
            upward.append(row(plus_step(scheme, seed, at, chain, step, value), [value]))
            value = plus_run(scheme, seed, at, chain, value, step, step + 1)
        rows += reversed(upward)
    return rows
