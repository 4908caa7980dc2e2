"""The points of the document once more, as plainly as possible and with the library of Python.

Nothing here calls the program, so that a fault of the program is not repeated by its tests.
"""

import hashlib


def small(data):
    state = 1
    for byte in data:
        state = (state * 257 + byte + 1) % 65521
    state = (state * 31 + len(data) + 7) % 65521
    out = []
    while len(out) < 32:
        state = (state * 16807 + 11) % 65521
        out.append(state % 256)
    return out


def whole(name, data):
    if name.startswith("sha-"):
        return list(hashlib.sha256(bytes(data)).digest())
    return small(data)


def size(name):
    return int(name.split("-")[1])


def digest(name, data):
    return whole(name, data)[:size(name)]


def mac(name, key, data):
    block = whole(name, key) if len(key) > 64 else key
    block = block + [0] * (64 - len(block))
    return whole(name, [x ^ 92 for x in block] + whole(name, [x ^ 54 for x in block] + data))


def num(number, count):
    return list(number.to_bytes(count, "big"))


def parameters(name, width):
    """top, u, v, ls and p."""
    top = 2 ** width - 1
    u = 8 * size(name) // width
    v = min(v for v in range(20) if 2 ** (v * width) > u * top)
    return top, u, v, 16 - v * width, u + v


def bits(data):
    return "".join(f"{byte:08b}" for byte in data)


def coefficients(data, width):
    text = bits(data)
    return [int(text[k:k + width], 2) for k in range(0, len(text), width)]


def digits(name, width, data):
    top, u, v, ls, _ = parameters(name, width)
    first = coefficients(data, width)
    check = sum(top - d for d in first)
    return first + coefficients(num(check * 2 ** ls, 2), width)[:v]
