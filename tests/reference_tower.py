"""The points of towers with states once more, as plainly as possible.

A tower is here a list of tuples (name of the suite, width, height), the highest level first.
"""

from reference import digest, lms_form, lms_public, lms_rows, lms_sign, lms_value, num, number


def total(tower):
    return 2 ** sum(h for _, _, h in tower)


def places(tower, m):
    if not tower:
        return []
    return places(tower[:-1], m // 2 ** tower[-1][2]) + [m % 2 ** tower[-1][2]]


def below(words, identifier, seed, q):
    """The identifier and the seed of the child of a place (point 73)."""
    name, _, h = words
    found = identifier[:7] + [identifier[7] + 1] + num(number(identifier[8:]) * 2 ** h + q, 8)
    return found, digest(name, identifier + num(q, 4) + [255, 254, 255] + seed)


def level_key(tower, identifier, seed, qs):
    for words, q in zip(tower, qs):
        identifier, seed = below(words, identifier, seed, q)
    return identifier, seed


def tree_public(words, identifier, seed):
    return lms_public(*words, identifier, lms_value(*words, identifier, seed, 1))


def public(tower, identifier, seed):
    return num(len(tower), 4) + tree_public(tower[0], identifier, seed)


def steps(tower, identifier, seed, m, message):
    """For each level: its kind, the identifier, what is signed, and the tree signature."""
    qs, out = places(tower, m), []
    for level, words in enumerate(tower):
        key = level_key(tower, identifier, seed, qs[:level])
        text = message
        if level + 1 < len(tower):
            text = tree_public(tower[level + 1], *level_key(tower, identifier, seed, qs[:level + 1]))
        out.append((words, key[0], text, lms_sign(*words, *key, qs[level], text)))
    return out


def signature(tower, identifier, seed, m, message):
    found = steps(tower, identifier, seed, m, message)
    return [(part, text) for _, _, text, part in found[:-1]], found[-1][3]


def form(tower, identifier, seed, m, message):
    data = num(len(tower) - 1, 4)
    found = steps(tower, identifier, seed, m, message)
    for level, (words, _, text, part) in enumerate(found):
        data = data + lms_form(*words, part) + (text if level + 1 < len(found) else [])
    return data


def rows(tower, identifier, seed, m, message):
    out = []
    for level, (words, name, text, part) in enumerate(steps(tower, identifier, seed, m, message)):
        out += lms_rows(*words, name, text, part)
        if level + 1 < len(tower):
            out[-1] = (out[-1][0], (tuple(text[24:]),), True)
    return out
