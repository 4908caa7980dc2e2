"""Points 105, 110 to 114 and 119: forests."""

import itertools

import reference_stateless as known
from helpers import Case, changed, some_bytes
from sealgrove.errors import Malformed, OutOfRange
from sealgrove.forest import (
    forest_candidate, forest_fork_list, forest_key, forest_leaf_list, forest_roots_list, forest_rows, forest_secret,
    forest_sign, picks,
)
from sealgrove.schemes import Stateless
from sealgrove.suites import suite_named

NAMES = ("small-1", "small-3", "sha-2")


def samples():
    """Schemes as words and as objects, with a seed and a secret seed."""
    for (a, k), name in zip(itertools.product((1, 2, 3), (1, 2, 3)), itertools.cycle(NAMES)):
        words = (name, 4, a, k, 2, 2)
        scheme = Stateless(suite_named(name), *words[1:])
        yield words, scheme, some_bytes(scheme.suite.size, 1), some_bytes(scheme.suite.size, 2)


def places(scheme):
    return ((0, 0), (258, 1), (2 ** 64 - 1, 2 ** scheme.rise - 1))


def bad_places(scheme):
    return ((-1, 0), (2 ** 64, 0), (0, -1), (0, 2 ** scheme.rise), (10 ** 5000, 0), (0, 10 ** 5000))


class Picks(Case):
    def test_picks(self):
        for words, scheme, _, _ in samples():
            for data in ([0] * 5, [255] * 5, some_bytes(5, 7), some_bytes(scheme.picks_size, 8)):
                found = self.pure(picks, scheme, data)
                self.assertEqual(found, known.picks(words, data))
                self.assertEqual([pick >> scheme.a for pick in found], list(range(scheme.k)))

    def test_great_trees(self):
        scheme = Stateless(suite_named("small-1"), 4, 24, 2, 1, 1)
        self.assertEqual(picks(scheme, [1, 2, 3, 255, 255, 255]), [0x010203, 2 ** 25 - 1])
        scheme = Stateless(suite_named("small-1"), 4, 12, 3, 1, 1)
        self.assertEqual(picks(scheme, [0x12, 0x34, 0x56, 0x78, 0x9F]), [0x123, 0x1456, 0x2789])

    def test_data_that_are_too_short(self):
        for _, scheme, seed, secret in samples():
            n, size = scheme.suite.size, scheme.picks_size
            shown = forest_sign(scheme, seed, secret, (0, 0), [1] * size)
            for count in range(size):
                self.raises(OutOfRange, picks, scheme, [1] * count)
                self.raises(OutOfRange, forest_sign, scheme, seed, secret, (0, 0), [1] * count)
                for value in (shown, [], None):
                    self.raises(OutOfRange, forest_candidate, scheme, seed, (0, 0), [1] * count, value)
                    self.raises(OutOfRange, forest_rows, scheme, seed, (0, 0), [1] * count, value)
            self.assertEqual(len(forest_candidate(scheme, seed, (0, 0), [1] * (size + 3), shown)), n)


class Lists(Case):
    def test_lists_and_secrets(self):
        for words, scheme, seed, secret in samples():
            n, a, k = scheme.suite.size, scheme.a, scheme.k
            value, left, right = (some_bytes(n, number) for number in (3, 4, 5))
            for at in places(scheme):
                for index in sorted({0, k * 2 ** a // 2, k * 2 ** a - 1}):
                    found = self.pure(forest_leaf_list, scheme, seed, at, index, value)
                    self.assertEqual(found, known.forest_leaf(words, seed, at, index, value))
                    found = self.pure(forest_secret, scheme, seed, secret, at, index)
                    self.assertEqual(found, known.forest_secret(words, seed, secret, at, index))
                for level in range(1, a + 1):
                    for index in sorted({0, k * 2 ** (a - level) - 1}):
                        found = self.pure(forest_fork_list, scheme, seed, at, level, index, left, right)
                        self.assertEqual(found, known.forest_fork(words, seed, at, level, index, left, right))
                roots = [some_bytes(n, t) for t in range(k)]
                found = self.pure(forest_roots_list, scheme, seed, at, roots)
                self.assertEqual(found, known.forest_roots(words, seed, at, roots))

    def test_lists_written_out(self):
        scheme = Stateless(suite_named("small-1"), 4, 3, 3, 2, 2)
        head = [9] + [0] * 63
        self.assertEqual(forest_leaf_list(scheme, [9], (258, 3), 23, [7]),
                         head + [0] + [0] * 6 + [1, 2, 3, 0, 0, 0, 3, 0, 0, 0, 0, 0, 0, 0, 23, 7])
        self.assertEqual(forest_fork_list(scheme, [9], (258, 3), 2, 5, [7], [8]),
                         head + [0] + [0] * 6 + [1, 2, 3, 0, 0, 0, 3, 0, 0, 0, 2, 0, 0, 0, 5, 7, 8])
        self.assertEqual(forest_roots_list(scheme, [9], (258, 3), [[4], [5], [6]]),
                         head + [0] + [0] * 6 + [1, 2, 4, 0, 0, 0, 3] + [0] * 8 + [4, 5, 6])

    def test_what_is_refused(self):
        for _, scheme, seed, secret in samples():
            a, k, value = scheme.a, scheme.k, [7] * scheme.suite.size
            for at in bad_places(scheme):
                self.raises(OutOfRange, forest_leaf_list, scheme, seed, at, 0, value)
                self.raises(OutOfRange, forest_fork_list, scheme, seed, at, 1, 0, value, value)
                self.raises(OutOfRange, forest_roots_list, scheme, seed, at, [value] * k)
                self.raises(OutOfRange, forest_secret, scheme, seed, secret, at, 0)
                self.raises(OutOfRange, forest_key, scheme, seed, secret, at)
            for index in (-1, k * 2 ** a, k * 2 ** a + 1, 10 ** 5000):
                self.raises(OutOfRange, forest_leaf_list, scheme, seed, (0, 0), index, value)
                self.raises(OutOfRange, forest_secret, scheme, seed, secret, (0, 0), index)
            for level in (-1, 0, a + 1, a + 2, 10 ** 5000):
                self.raises(OutOfRange, forest_fork_list, scheme, seed, (0, 0), level, 0, value, value)
            for level in range(1, a + 1):
                for index in (-1, k * 2 ** (a - level), k * 2 ** a, 10 ** 5000):
                    self.raises(OutOfRange, forest_fork_list, scheme, seed, (0, 0), level, index, value, value)


class Signatures(Case):
    def test_keys_signatures_candidates_and_rows(self):
        for words, scheme, seed, secret in samples():
            for at in places(scheme):
                key = known.forest_key(words, seed, secret, at)
                self.assertEqual(self.pure(forest_key, scheme, seed, secret, at), key)
                for data in ([0] * scheme.picks_size, [255] * scheme.picks_size, some_bytes(5, 7)):
                    shown = self.pure(forest_sign, scheme, seed, secret, at, data)
                    self.assertEqual(shown, known.forest_sign(words, seed, secret, at, data))
                    self.assertTrue(all(type(part) is tuple for part in shown))
                    self.assertEqual(self.pure(forest_candidate, scheme, seed, at, data, shown), key)
                    rows = self.pure(forest_rows, scheme, seed, at, data, shown)
                    self.assertEqual(rows, known.forest_rows(words, seed, at, data, shown))
                    self.hang_together(scheme.suite, rows, key)
                    self.assertEqual({row[2] for row in rows}, {False})
                    self.assertEqual([len(row[1]) for row in rows], [scheme.k] + scheme.k * ([2] * scheme.a + [0]))

    def test_changed_signatures(self):
        for words, scheme, seed, secret in samples():
            at, data = places(scheme)[1], some_bytes(scheme.picks_size, 7)
            shown = forest_sign(scheme, seed, secret, at, data)
            value, path = shown[-1]
            wrong = [(data, shown[:-1] + [(changed(value, 0), path)]),
                     (data, shown[:-1] + [(value, path[:-1] + [changed(path[-1], 0)])]),
                     (changed(data, 0, 128), shown)]
            for signed, parts in wrong:
                found = forest_candidate(scheme, seed, at, signed, parts)
                self.assertEqual(found, known.forest_candidate(words, seed, at, signed, parts))
                if scheme.suite.size > 2:
                    self.assertNotEqual(found, forest_key(scheme, seed, secret, at))
                rows = forest_rows(scheme, seed, at, signed, parts)
                self.assertEqual(rows, known.forest_rows(words, seed, at, signed, parts))
                self.hang_together(scheme.suite, rows, found)

    def test_what_does_not_have_the_form(self):
        for _, scheme, seed, secret in samples():
            n, data = scheme.suite.size, [7] * scheme.picks_size
            shown = forest_sign(scheme, seed, secret, (0, 0), data)
            value, path = shown[0]
            wrong = [[], shown[:-1], shown + [shown[0]], tuple(shown), None, 5, [list(shown[0])] + shown[1:]]
            for part in ((value,), (value, path, 0), (value + [1], path), (value[:-1], path), (value, path[:-1]),
                         (value, path + [value]), (value, path[:-1] + [[1] * (n + 1)]), (value, tuple(path)), (value, None),
                         (None, path), (tuple(value), path), ([256] * n, path), None, (path, value)):
                wrong += [[part] + shown[1:], shown[:-1] + [part]]
            for parts in wrong:
                self.raises(Malformed, forest_candidate, scheme, seed, (0, 0), data, parts)
                self.raises(Malformed, forest_rows, scheme, seed, (0, 0), data, parts)
                for at in bad_places(scheme)[:4]:
                    self.raises(OutOfRange, forest_candidate, scheme, seed, at, data, parts)
                    self.raises(OutOfRange, forest_rows, scheme, seed, at, data, parts)
            for at in bad_places(scheme):
                self.raises(OutOfRange, forest_sign, scheme, seed, secret, at, data)
                self.raises(OutOfRange, forest_sign, scheme, seed, secret, at, [])

    def test_two_signatures_with_one_candidate(self):
        """Point 119: they have equal lists, or two different lists with one address and one digest."""
        words = ("small-1", 4, 2, 2, 1, 1)
        scheme = Stateless(suite_named("small-1"), *words[1:])
        data = [0b10010000]
        shown = forest_sign(scheme, [1], [2], (0, 1), data)
        key = forest_key(scheme, [1], [2], (0, 1))
        own = {row[0][:86]: row[0] for row in forest_rows(scheme, [1], (0, 1), data, shown)}
        parted = 0
        for t, by, place in itertools.product(range(2), range(1, 256), (None, 0, 1)):
            value, path = shown[t]
            part = (changed(value, 0, by), path) if place is None else (
                value, path[:place] + [changed(path[place], 0, by)] + path[place + 1:])
            parts = shown[:t] + [part] + shown[t + 1:]
            if forest_candidate(scheme, [1], (0, 1), data, parts) == key:
                parted += 1
                other = {row[0][:86]: row[0] for row in forest_rows(scheme, [1], (0, 1), data, parts)}
                self.assertEqual(set(other), set(own))
                unlike = [(own[at], other[at]) for at in own if own[at] != other[at]]
                self.assertTrue([1 for x, y in unlike if scheme.suite.digest(list(x)) == scheme.suite.digest(list(y))])
        self.assertGreater(parted, 2)
