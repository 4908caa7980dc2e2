"""What all tests share."""

import random
import unittest

import reference
from sealgrove.coefficients import OneTime
from sealgrove.lms import TreeKind
from sealgrove.suites import suite_named

TREE_KINDS = (
    ("small-1", 8, 0), ("small-1", 4, 3), ("small-2", 2, 2), ("small-3", 8, 1), ("sha-4", 4, 2), ("sha-32", 1, 1),
)


def frozen(value):
    """A copy of the value that can be compared and that nothing can change."""
    if isinstance(value, (list, tuple)):
        return type(value).__name__, tuple(frozen(item) for item in value)
    if isinstance(value, dict):
        return "dict", tuple((frozen(key), frozen(value[key])) for key in value)
    if type(value).__name__ in ("Suite", "OneTime", "TreeKind", "Stateless", "Tower"):
        return type(value).__name__, frozen(vars(value))
    return value


def lists_in(value):
    """All lists and dicts in the value, itself included."""
    found = []
    if isinstance(value, (list, dict)):
        found.append(value)
    if isinstance(value, (list, tuple)):
        for item in value:
            found.extend(lists_in(item))
    if isinstance(value, dict):
        for key in value:
            found.extend(lists_in(value[key]))
    return found


def some_bytes(count, seed=0):
    """A byte list that depends on the seed alone."""
    source = random.Random(1000003 * seed + count)
    return [source.randrange(256) for _ in range(count)]


def changed(data, at, by=1):
    """A copy of the byte list with another byte at one index."""
    return data[:at] + [(data[at] + by) % 256] + data[at + 1:]


def plain(level, index, left, right):
    """A text function in which every argument counts."""
    return [level, index % 256, 77] + left + right


def never(*rest):
    """A leaf function or text function that must not be called."""
    raise AssertionError("a function was called before the errors were looked for")


def leaves_of(name, height, seed=0):
    """The values of the leaves of a tree."""
    size = reference.size(name)
    return [some_bytes(size, seed + k) for k in range(2 ** height)]


def shorter_and_longer(data):
    """The byte list with a byte left out, with one put in, and cut, at many places of it."""
    for at in sorted({0, 1, 3, 4, 7, 8, len(data) // 3, len(data) // 2, len(data) - 1}):
        if at < len(data):
            yield data[:at] + data[at + 1:]
            yield data[:at] + [data[at]] + data[at:]
            yield data[:at] + [0] + data[at:]
            yield data[:at]
            yield data[at + 1:]
    yield data + [0]
    yield data + data


def kind_of(name, width, height):
    """A kind of tree keys."""
    return TreeKind(OneTime(suite_named(name), width), height)


def tree_kinds():
    """Kinds of tree keys as words and as objects, with a seed."""
    for words in TREE_KINDS:
        kind = kind_of(*words)
        yield words, kind, some_bytes(kind.suite.size, 3)


class Case(unittest.TestCase):
    def pure(self, function, *args, **named):
        """What the call returns, after a look at point 2: it changes no argument,
        and what it returns may be changed without effect on the arguments and on later calls."""
        before = frozen((args, named))
        first = function(*args, **named)
        self.assertEqual(before, frozen((args, named)), "an argument was changed")
        given = {id(item) for item in lists_in((args, named))}
        returned = lists_in(first)
        self.assertFalse([item for item in returned if id(item) in given], "a list is shared with an argument")
        kept = frozen(first)
        for item in returned:
            item.clear()
        self.assertEqual(before, frozen((args, named)), "a list is shared with an argument")
        second = function(*args, **named)
        self.assertEqual(kept, frozen(second), "a second call returns something else")
        return second

    def raises(self, error, function, *args, **named):
        """The call raises exactly this error, and changes no argument."""
        before = frozen((args, named))
        with self.assertRaises(error) as caught:
            function(*args, **named)
        self.assertIs(type(caught.exception), error)
        self.assertEqual(before, frozen((args, named)), "an argument was changed")

    def hang_together(self, suite, rows, root):
        """The digest of the first list is the root, and that of each other one that is not loose stands as an item
        in a row before it."""
        shown = {tuple(root)}
        for data, items, loose in rows:
            self.assertIs(type(data), tuple)
            self.assertIs(type(items), tuple)
            self.assertTrue(all(type(item) is tuple for item in items))
            self.assertIs(type(loose), bool)
            if not loose:
                self.assertIn(tuple(suite.digest(list(data))), shown)
            shown.update(items)
