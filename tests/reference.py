"""The points of the document once more, as plainly as possible and with the library of Python.

Nothing here calls the program, so that a fault of the program is not repeated by its tests.
"""

import hashlib


def small(data):
    state = 1
    for byte in data:
        state = (state * 257 + byte + 1) % 65521
    state = (state * 31 + len(data) + 7) % 65521
    out = []
    while len(out) < 32:
        state = (state * 16807 + 11) % 65521
        out.append(state % 256)
    return out


def whole(name, data):
    if name.startswith("sha-"):
        return list(hashlib.sha256(bytes(data)).digest())
    return small(data)


def size(name):
    return int(name.split("-")[1])


def digest(name, data):
    return whole(name, data)[:size(name)]


def mac(name, key, data):
    block = whole(name, key) if len(key) > 64 else key
    block = block + [0] * (64 - len(block))
    return whole(name, [x ^ 92 for x in block] + whole(name, [x ^ 54 for x in block] + data))


def num(number, count):
    return list(number.to_bytes(count, "big"))


def number(data):
    return int.from_bytes(bytes(data), "big")


def parameters(name, width):
    """top, u, v, ls and p."""
    top = 2 ** width - 1
    u = 8 * size(name) // width
    v = min(v for v in range(20) if 2 ** (v * width) > u * top)
    return top, u, v, 16 - v * width, u + v


def bits(data):
    return "".join(f"{byte:08b}" for byte in data)


def coefficients(data, width):
    text = bits(data)
    return [int(text[k:k + width], 2) for k in range(0, len(text), width)]


def digits(name, width, data):
    top, u, v, ls, _ = parameters(name, width)
    first = coefficients(data, width)
    check = sum(top - d for d in first)
    return first + coefficients(num(check * 2 ** ls, 2), width)[:v]


# Part 2: one-time keys.


def step_list(identifier, q, chain, step, value):
    return identifier + num(q, 4) + num(chain, 2) + [step] + value


def once_walk(name, identifier, q, chain, start, stop, value):
    for step in range(start, stop):
        value = digest(name, step_list(identifier, q, chain, step, value))
    return value


def once_value(name, identifier, q, seed, chain, step):
    secret = digest(name, identifier + num(q, 4) + num(chain, 2) + [255] + seed)
    return once_walk(name, identifier, q, chain, 0, step, secret)


def ends_list(identifier, q, ends):
    return identifier + num(q, 4) + [128, 128] + sum(ends, [])


def message_list(identifier, q, randomizer, message):
    return identifier + num(q, 4) + [129, 129] + randomizer + message


def once_ends(name, width, identifier, q, seed):
    top, p = parameters(name, width)[0], parameters(name, width)[4]
    return [once_value(name, identifier, q, seed, chain, top) for chain in range(p)]


def once_key(name, width, identifier, q, seed):
    return digest(name, ends_list(identifier, q, once_ends(name, width, identifier, q, seed)))


def once_digits(name, width, identifier, q, randomizer, message):
    return digits(name, width, digest(name, message_list(identifier, q, randomizer, message)))


def once_sign(name, width, identifier, q, seed, message):
    randomizer = digest(name, identifier + num(q, 4) + [255, 253, 255] + seed)
    found = once_digits(name, width, identifier, q, randomizer, message)
    return randomizer, [once_value(name, identifier, q, seed, chain, d) for chain, d in enumerate(found)]


def once_reached(name, width, identifier, q, message, signature):
    """The ends that are worked out from a signature."""
    randomizer, values = signature
    found = once_digits(name, width, identifier, q, randomizer, message)
    top = 2 ** width - 1
    return [once_walk(name, identifier, q, chain, found[chain], top, values[chain]) for chain in range(len(values))]


def once_candidate(name, width, identifier, q, message, signature):
    reached = once_reached(name, width, identifier, q, message, signature)
    return digest(name, ends_list(identifier, q, reached))


def row(data, items, loose=False):
    return tuple(data), tuple(tuple(item) for item in items), loose


def once_rows(name, width, identifier, q, message, signature):
    randomizer, values = signature
    reached = once_reached(name, width, identifier, q, message, signature)
    found = once_digits(name, width, identifier, q, randomizer, message)
    rows = [row(ends_list(identifier, q, reached), reached)]
    for chain, value in enumerate(values):
        for step in range(2 ** width - 2, found[chain] - 1, -1):
            there = once_walk(name, identifier, q, chain, found[chain], step, value)
            rows.append(row(step_list(identifier, q, chain, step, there), [there]))
    return rows + [row(message_list(identifier, q, randomizer, message), [], True)]


# Part 3: trees and batches.


def tree_value(name, leaves, text, level, index):
    """The value of a node, by the words of point 45."""
    if level == 0:
        return leaves[index]
    left = tree_value(name, leaves, text, level - 1, 2 * index)
    right = tree_value(name, leaves, text, level - 1, 2 * index + 1)
    return digest(name, text(level, index, left, right))


def height(leaves):
    return len(leaves).bit_length() - 1


def root(name, leaves, text):
    return tree_value(name, leaves, text, height(leaves), 0)


def path(name, leaves, text, q):
    return [tree_value(name, leaves, text, z, q // 2 ** z ^ 1) for z in range(height(leaves))]


def joint_places(h, places):
    """The nodes that are not known, but have a known sibling, level by level."""
    out = []
    for z in range(h):
        known = sorted({q // 2 ** z for q in places})
        out.extend((z, i ^ 1) for i in known if i ^ 1 not in known)
    return out


def item_text(c, i, message):
    return [0] + num(c, 4) + num(i, 4) + message


def fork_text(z, i, left, right):
    return [2] + num(z, 4) + num(i, 4) + left + right


def batch_leaves(name, messages):
    c = len(messages)
    h = min(h for h in range(20) if 2 ** h >= c)
    texts = [item_text(c, i, message) for i, message in enumerate(messages)]
    texts += [[1] + num(c, 4) + num(i, 4) for i in range(c, 2 ** h)]
    return [digest(name, text) for text in texts]


def batch_head(name, messages):
    return [3] + num(len(messages), 4) + root(name, batch_leaves(name, messages), fork_text)


# Part 4: tree keys.


def lms_list(name, width, h, identifier, seed, r):
    """The leaf list or node list of a node."""
    if r >= 2 ** h:
        return identifier + num(r, 4) + [130, 130] + once_key(name, width, identifier, r - 2 ** h, seed)
    left, right = (lms_value(name, width, h, identifier, seed, below) for below in (2 * r, 2 * r + 1))
    return identifier + num(r, 4) + [131, 131] + left + right


def lms_value(name, width, h, identifier, seed, r):
    return digest(name, lms_list(name, width, h, identifier, seed, r))


def lms_path(name, width, h, identifier, seed, q):
    r, out = 2 ** h + q, []
    while r > 1:
        out.append(lms_value(name, width, h, identifier, seed, r ^ 1))
        r //= 2
    return out


def lms_candidate(name, width, h, identifier, message, signature):
    q, once, values = signature
    r = 2 ** h + q
    key = once_candidate(name, width, identifier, q, message, once)
    value = digest(name, identifier + num(r, 4) + [130, 130] + key)
    for other in values:
        both = value + other if r % 2 == 0 else other + value
        r //= 2
        value = digest(name, identifier + num(r, 4) + [131, 131] + both)
    return value


# Part 4: forms and rows.


def suite_code(name):
    """What a code has of the suite, behind the first number of its kind."""
    return 65536 * (0 if name.startswith("sha-") else 1) + 256 * size(name)


def once_code(name, width):
    return {1: 1, 2: 2, 4: 3, 8: 4}[width] if name == "sha-32" else 3758096384 + suite_code(name) + width


def kind_code(name, h):
    return 4 + h // 5 if name == "sha-32" and h in (5, 10, 15, 20, 25) else 3892314112 + suite_code(name) + h


def lms_public(name, width, h, identifier, root):
    return num(kind_code(name, h), 4) + num(once_code(name, width), 4) + identifier + root


def lms_form(name, width, h, signature):
    q, (randomizer, values), path = signature
    once = num(once_code(name, width), 4) + randomizer + sum(values, [])
    return num(q, 4) + once + num(kind_code(name, h), 4) + sum(path, [])


def lms_sign(name, width, h, identifier, seed, q, message):
    return q, once_sign(name, width, identifier, q, seed, message), lms_path(name, width, h, identifier, seed, q)


def lms_rows(name, width, h, identifier, message, signature):
    q, once, values = signature
    r = 2 ** h + q
    key = once_candidate(name, width, identifier, q, message, once)
    rows = [row(identifier + num(r, 4) + [130, 130] + key, [key])]
    for other in values:
        value = digest(name, list(rows[0][0]))
        left, right = (value, other) if r % 2 == 0 else (other, value)
        r //= 2
        rows.insert(0, row(identifier + num(r, 4) + [131, 131] + left + right, [left, right]))
    return rows + once_rows(name, width, identifier, q, message, once)


# Part 5: kept paths.


class Rounds:
    """The rounds of a kept path, by the words of points 86 to 88. A node is a tuple (level, index)."""

    def __init__(self, h, schedule):
        self.h, self.schedule, self.place = h, schedule, 0
        self.path = [(z, 1) for z in range(h)]
        self.targets, self.stacks = [None] * h, [[] for _ in range(h)]
        for z in range(h):
            self.set(z)
        self.work()

    def set(self, z):
        later = self.place + 2 ** z
        self.stacks[z] = []
        self.targets[z] = later // 2 ** z ^ 1 if later < 2 ** self.h else None

    def is_ready(self, z):
        return self.targets[z] is None or self.stacks[z] == [(z, self.targets[z])]

    def tail(self, z):
        return self.stacks[z][-1][0] if self.stacks[z] else z

    def unit(self, z):
        stack = self.stacks[z]
        if len(stack) > 1 and stack[-1][0] == stack[-2][0]:
            level, index = stack[-1]
            stack[-2:] = [(level + 1, index // 2)]
            self.parents += 1
        else:
            had = [index * 2 ** level + 2 ** level for level, index in stack]
            stack.append((0, had[-1] if had else self.targets[z] * 2 ** z))
            self.leaves += 1
        self.most = max(self.most, sum(map(len, self.stacks)))

    def work(self):
        self.leaves = self.parents = self.most = 0
        if self.schedule == "even":
            for z in range(self.h):
                for _ in range(2):
                    if not self.is_ready(z):
                        self.unit(z)
        else:
            for _ in range(2 * self.h - 1):
                open_ones = [z for z in range(self.h) if not self.is_ready(z)]
                if open_ones:
                    self.unit(min(open_ones, key=lambda z: (self.tail(z), z)))

    def next(self):
        self.place += 1
        for z in range(self.h):
            if self.place % 2 ** z == 0:
                [self.path[z]] = self.stacks[z]
                self.set(z)
        self.work()
