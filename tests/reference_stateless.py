"""The points of part 6, and of the stateless signatures of part 7, once more, as plainly as possible.

A scheme is here a tuple (name of the suite, w, a, k, rise, layers).
"""

from reference import bits, digest, digits, mac, num, parameters, row, size, whole


def stretch(name, data, count):
    blocks = [whole(name, data + num(k, 4)) for k in range(count // 32 + 1)]
    return sum(blocks, [])[:count]


def long_form(address):
    return sum([num(number, count) for number, count in zip(address, (4, 12, 4, 4, 4, 4))], [])


def short_form(address):
    return sum([num(number, count) for number, count in zip(address, (1, 8, 1, 4, 4, 4))], [])


def addressed_list(name, seed, address, data):
    return seed + [0] * (64 - size(name)) + short_form(address) + data


def addressed(name, seed, address, data):
    return digest(name, addressed_list(name, seed, address, data))


def randomizer(name, key, extra, message):
    return mac(name, key, extra + message)[:size(name)]


def message_digest(name, found, seed, root, message, count):
    return stretch(name, found + seed + whole(name, found + seed + root + message), count)


def bit_digits(data, b, count):
    text = bits(data)
    return [int(text[k * b:k * b + b], 2) for k in range(count)]


# One-time keys with addresses.


def plus_step(scheme, seed, at, chain, step, value):
    layer, tree, leaf = at
    return addressed_list(scheme[0], seed, (layer, tree, 0, leaf, chain, step), value)


def plus_ends(scheme, seed, at, ends):
    layer, tree, leaf = at
    return addressed_list(scheme[0], seed, (layer, tree, 1, leaf, 0, 0), sum(ends, []))


def plus_run(scheme, seed, at, chain, value, start, stop):
    for step in range(start, stop):
        value = digest(scheme[0], plus_step(scheme, seed, at, chain, step, value))
    return value


def plus_value(scheme, seed, secret, at, chain, step):
    layer, tree, leaf = at
    value = addressed(scheme[0], seed, (layer, tree, 5, leaf, chain, 0), secret)
    return plus_run(scheme, seed, at, chain, value, 0, step)


def plus_key(scheme, seed, secret, at):
    top, p = parameters(*scheme[:2])[0], parameters(*scheme[:2])[4]
    ends = [plus_value(scheme, seed, secret, at, chain, top) for chain in range(p)]
    return digest(scheme[0], plus_ends(scheme, seed, at, ends))


def plus_sign(scheme, seed, secret, at, data):
    found = digits(*scheme[:2], data)
    return [plus_value(scheme, seed, secret, at, chain, d) for chain, d in enumerate(found)]


def plus_reached(scheme, seed, at, data, values):
    found, top = digits(*scheme[:2], data), 2 ** scheme[1] - 1
    return [plus_run(scheme, seed, at, chain, value, found[chain], top) for chain, value in enumerate(values)]


def plus_candidate(scheme, seed, at, data, values):
    return digest(scheme[0], plus_ends(scheme, seed, at, plus_reached(scheme, seed, at, data, values)))


def plus_rows(scheme, seed, at, data, values):
    found, reached = digits(*scheme[:2], data), plus_reached(scheme, seed, at, data, values)
    rows = [row(plus_ends(scheme, seed, at, reached), reached)]
    for chain, value in enumerate(values):
        upward = []
        for step in range(found[chain], 2 ** scheme[1] - 1):
            upward.append(row(plus_step(scheme, seed, at, chain, step, value), [value]))
            value = plus_run(scheme, seed, at, chain, value, step, step + 1)
        rows += reversed(upward)
    return rows


# Forests. A place is a tuple (tree, leaf).


def forest_leaf(scheme, seed, at, index, value):
    return addressed_list(scheme[0], seed, (0, at[0], 3, at[1], 0, index), value)


def forest_fork(scheme, seed, at, level, index, left, right):
    return addressed_list(scheme[0], seed, (0, at[0], 3, at[1], level, index), left + right)


def forest_roots(scheme, seed, at, roots):
    return addressed_list(scheme[0], seed, (0, at[0], 4, at[1], 0, 0), sum(roots, []))


def forest_secret(scheme, seed, secret, at, index):
    return addressed(scheme[0], seed, (0, at[0], 6, at[1], 0, index), secret)


def forest_value(scheme, seed, secret, at, level, index):
    if level == 0:
        return digest(scheme[0], forest_leaf(scheme, seed, at, index, forest_secret(scheme, seed, secret, at, index)))
    left, right = (forest_value(scheme, seed, secret, at, level - 1, 2 * index + side) for side in (0, 1))
    return digest(scheme[0], forest_fork(scheme, seed, at, level, index, left, right))


def forest_key(scheme, seed, secret, at):
    roots = [forest_value(scheme, seed, secret, at, scheme[2], t) for t in range(scheme[3])]
    return digest(scheme[0], forest_roots(scheme, seed, at, roots))


def picks(scheme, data):
    found = bit_digits(data, scheme[2], scheme[3])
    return [t * 2 ** scheme[2] + d for t, d in enumerate(found)]


def forest_sign(scheme, seed, secret, at, data):
    return [
        (forest_secret(scheme, seed, secret, at, i),
         [forest_value(scheme, seed, secret, at, z, i // 2 ** z ^ 1) for z in range(scheme[2])])
        for i in picks(scheme, data)
    ]


def forest_climb(scheme, seed, at, index, value, path):
    """The rows of one tree, from its root down."""
    rows = [row(forest_leaf(scheme, seed, at, index, value), [])]
    for z, other in enumerate(path):
        reached = digest(scheme[0], list(rows[0][0]))
        left, right = (reached, other) if index % 2 == 0 else (other, reached)
        index //= 2
        rows.insert(0, row(forest_fork(scheme, seed, at, z + 1, index, left, right), [left, right]))
    return rows


def forest_rows(scheme, seed, at, data, shown):
    found = [forest_climb(scheme, seed, at, i, *part) for i, part in zip(picks(scheme, data), shown)]
    roots = [digest(scheme[0], list(rows[0][0])) for rows in found]
    return [row(forest_roots(scheme, seed, at, roots), roots)] + sum(found, [])


def forest_candidate(scheme, seed, at, data, shown):
    return digest(scheme[0], list(forest_rows(scheme, seed, at, data, shown)[0][0]))


# Layers. A place is a tuple (layer, tree, leaf), that of a tree (layer, tree).


def layer_node(scheme, seed, at, level, index, left, right):
    return addressed_list(scheme[0], seed, (*at, 2, 0, level, index), left + right)


def layer_value(scheme, seed, secret, at, level, index):
    if level == 0:
        return plus_key(scheme, seed, secret, (*at, index))
    left, right = (layer_value(scheme, seed, secret, at, level - 1, 2 * index + side) for side in (0, 1))
    return digest(scheme[0], layer_node(scheme, seed, at, level, index, left, right))


def layer_root(scheme, seed, secret, at):
    return layer_value(scheme, seed, secret, at, scheme[4], 0)


def layer_sign(scheme, seed, secret, at, data):
    path = [layer_value(scheme, seed, secret, at[:2], z, at[2] // 2 ** z ^ 1) for z in range(scheme[4])]
    return plus_sign(scheme, seed, secret, at, data), path


def layer_rows(scheme, seed, at, data, signature):
    rows = plus_rows(scheme, seed, at, data, signature[0])
    index = at[2]
    for z, other in enumerate(signature[1]):
        reached = digest(scheme[0], list(rows[0][0]))
        left, right = (reached, other) if index % 2 == 0 else (other, reached)
        index //= 2
        rows.insert(0, row(layer_node(scheme, seed, at[:2], z + 1, index, left, right), [left, right]))
    return rows


def layer_candidate(scheme, seed, at, data, signature):
    return digest(scheme[0], list(layer_rows(scheme, seed, at, data, signature)[0][0]))


# Stateless signatures.


def sizes(scheme):
    """The picks size, the tree size and the leaf size."""
    _, _, a, k, rise, layers = scheme
    return -(-k * a // 8), -(-rise * (layers - 1) // 8), -(-rise // 8)


def cut(scheme, data):
    """The picked part, the tree and the leaf."""
    first, second, _ = sizes(scheme)
    tree, leaf = (int.from_bytes(bytes(part), "big") for part in (data[first:first + second], data[first + second:]))
    return data[:first], tree % 2 ** (scheme[4] * (scheme[5] - 1)), leaf % 2 ** scheme[4]


def hyper_places(scheme, at):
    places = [(0, *at)]
    while len(places) < scheme[5]:
        layer, tree, _ = places[-1]
        places.append((layer + 1, tree // 2 ** scheme[4], tree % 2 ** scheme[4]))
    return places


def hyper_sign(scheme, seed, secret, at, data):
    out = []
    for place in hyper_places(scheme, at):
        out.append(layer_sign(scheme, seed, secret, place, data))
        data = layer_root(scheme, seed, secret, place[:2])
    return out


def hyper_data(scheme, seed, at, data, signature):
    """What each layer signs, from the layer 0 upward, and the candidate."""
    out = [data]
    for place, part in zip(hyper_places(scheme, at), signature):
        out.append(layer_candidate(scheme, seed, place, out[-1], part))
    return out


def key(scheme, secret, message_key, seed):
    return secret + message_key + seed + layer_root(scheme, seed, secret, (scheme[5] - 1, 0))


def flat(parts):
    found, shown, hyper = parts
    trees = [value + sum(path, []) for value, path in shown]
    layers = [sum(values, []) + sum(path, []) for values, path in hyper]
    return found + sum(trees, []) + sum(layers, [])


def message_place(scheme, public, message, found):
    n = size(scheme[0])
    data = message_digest(scheme[0], found, public[:n], public[n:], message, sum(sizes(scheme)))
    return cut(scheme, data)


def sign_parts(scheme, whole_key, message, extra=None):
    n = size(scheme[0])
    secret, message_key, seed = whole_key[:n], whole_key[n:2 * n], whole_key[2 * n:3 * n]
    found = randomizer(scheme[0], message_key, seed if extra is None else extra, message)
    picked, tree, leaf = message_place(scheme, whole_key[2 * n:], message, found)
    shown = forest_sign(scheme, seed, secret, (tree, leaf), picked)
    data = forest_key(scheme, seed, secret, (tree, leaf))
    return found, shown, hyper_sign(scheme, seed, secret, (tree, leaf), data)


def checked(scheme, public, message, parts):
    """What the layers sign from the layer 0 upward, the candidate, and the rows."""
    found, shown, hyper = parts
    seed = public[:size(scheme[0])]
    picked, tree, leaf = message_place(scheme, public, message, found)
    data = forest_candidate(scheme, seed, (tree, leaf), picked, shown)
    signed = hyper_data(scheme, seed, (tree, leaf), data, hyper)
    rows = [forest_rows(scheme, seed, (tree, leaf), picked, shown)]
    for place, text, part in zip(hyper_places(scheme, (tree, leaf)), signed, hyper):
        rows.insert(0, layer_rows(scheme, seed, place, text, part))
    for part in rows[1:]:
        part[0] = part[0][:2] + (True,)
    return signed, sum(rows, [])
