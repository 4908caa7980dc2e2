"""Points 115 to 119: layers."""

import reference_stateless as known
from helpers import Case, changed, some_bytes
from sealgrove.errors import Malformed, OutOfRange
from sealgrove.layers import layer_candidate, layer_node_list, layer_root, layer_rows, layer_sign
from sealgrove.plus import plus_candidate, plus_rows, plus_sign
from sealgrove.schemes import Stateless
from sealgrove.suites import suite_named

SCHEMES = (("small-1", 4, 1, 1, 1, 2), ("small-2", 2, 1, 1, 2, 1), ("sha-2", 4, 1, 1, 2, 3), ("small-3", 1, 1, 1, 3, 1))


def samples():
    for words in SCHEMES:
        scheme = Stateless(suite_named(words[0]), *words[1:])
        yield words, scheme, some_bytes(scheme.suite.size, 1), some_bytes(scheme.suite.size, 2)


TREES = ((0, 0), (1, 258), (255, 2 ** 64 - 1))
BAD_TREES = ((-1, 0), (256, 0), (0, -1), (0, 2 ** 64), (10 ** 5000, 0), (0, 10 ** 5000))


def bad_places(scheme):
    return [at + (0,) for at in BAD_TREES] + [(0, 0, -1), (0, 0, 2 ** scheme.rise), (0, 0, 10 ** 5000)]


class Nodes(Case):
    def test_node_lists(self):
        for words, scheme, seed, _ in samples():
            left, right = some_bytes(scheme.suite.size, 3), some_bytes(scheme.suite.size, 4)
            for at in TREES:
                for level in range(1, scheme.rise + 1):
                    for index in range(2 ** (scheme.rise - level)):
                        found = self.pure(layer_node_list, scheme, seed, at, level, index, left, right)
                        self.assertEqual(found, known.layer_node(words, seed, at, level, index, left, right))

    def test_a_list_written_out(self):
        scheme = Stateless(suite_named("small-1"), 4, 3, 3, 2, 2)
        self.assertEqual(layer_node_list(scheme, [9], (1, 258), 1, 1, [7], [8]),
                         [9] + [0] * 63 + [1, 0, 0, 0, 0, 0, 0, 1, 2, 2, 0, 0, 0, 0, 0, 0, 0, 1, 0, 0, 0, 1, 7, 8])

    def test_roots(self):
        for words, scheme, seed, secret in samples():
            for at in TREES:
                self.assertEqual(self.pure(layer_root, scheme, seed, secret, at), known.layer_root(words, seed, secret, at))

    def test_what_is_refused(self):
        for _, scheme, seed, secret in samples():
            value = [7] * scheme.suite.size
            for at in BAD_TREES:
                self.raises(OutOfRange, layer_node_list, scheme, seed, at, 1, 0, value, value)
                self.raises(OutOfRange, layer_root, scheme, seed, secret, at)
            for level in (-1, 0, scheme.rise + 1, 10 ** 5000):
                self.raises(OutOfRange, layer_node_list, scheme, seed, (0, 0), level, 0, value, value)
            for level in range(1, scheme.rise + 1):
                for index in (-1, 2 ** (scheme.rise - level), 2 ** scheme.rise, 10 ** 5000):
                    self.raises(OutOfRange, layer_node_list, scheme, seed, (0, 0), level, index, value, value)


class Signatures(Case):
    def test_signatures_candidates_and_rows(self):
        for words, scheme, seed, secret in samples():
            n = scheme.suite.size
            for tree in TREES:
                root = known.layer_root(words, seed, secret, tree)
                for leaf in range(2 ** scheme.rise):
                    at, data = tree + (leaf,), some_bytes(n, leaf)
                    signature = self.pure(layer_sign, scheme, seed, secret, at, data)
                    self.assertEqual(signature, known.layer_sign(words, seed, secret, at, data))
                    self.assertIs(type(signature), tuple)
                    self.assertEqual(self.pure(layer_candidate, scheme, seed, at, data, signature), root)
                    rows = self.pure(layer_rows, scheme, seed, at, data, signature)
                    self.assertEqual(rows, known.layer_rows(words, seed, at, data, signature))
                    self.hang_together(scheme.suite, rows, root)
                    self.assertEqual({row[2] for row in rows}, {False})

    def test_changed_signatures(self):
        for words, scheme, seed, secret in samples():
            n, at = scheme.suite.size, (1, 258, 2 ** scheme.rise - 1)
            data = some_bytes(n, 5)
            values, path = layer_sign(scheme, seed, secret, at, data)
            wrong = [(at, changed(data, 0), (values, path)), (at[:2] + (0,), data, (values, path)),
                     (at, data, (values[:-1] + [changed(values[-1], n - 1)], path)),
                     (at, data, (values, [changed(path[0], 0)] + path[1:]))]
            for place, signed, signature in wrong:
                found = layer_candidate(scheme, seed, place, signed, signature)
                self.assertEqual(found, known.layer_candidate(words, seed, place, signed, signature))
                if n > 2:
                    self.assertNotEqual(found, layer_root(scheme, seed, secret, at[:2]))
                rows = layer_rows(scheme, seed, place, signed, signature)
                self.assertEqual(rows, known.layer_rows(words, seed, place, signed, signature))
                self.hang_together(scheme.suite, rows, found)

    def test_data_and_places_out_of_bounds(self):
        for _, scheme, seed, secret in samples():
            n = scheme.suite.size
            signature = layer_sign(scheme, seed, secret, (0, 0, 0), [1] * n)
            for data in ([], [1] * (n - 1), [1] * (n + 1)):
                self.raises(OutOfRange, layer_sign, scheme, seed, secret, (0, 0, 0), data)
                for shown in (signature, (), None):
                    self.raises(OutOfRange, layer_candidate, scheme, seed, (0, 0, 0), data, shown)
                    self.raises(OutOfRange, layer_rows, scheme, seed, (0, 0, 0), data, shown)
            for at in bad_places(scheme):
                self.raises(OutOfRange, layer_sign, scheme, seed, secret, at, [1] * n)
                for shown in (signature, (), None):
                    self.raises(OutOfRange, layer_candidate, scheme, seed, at, [1] * n, shown)
                    self.raises(OutOfRange, layer_rows, scheme, seed, at, [1] * n, shown)

    def test_what_does_not_have_the_form(self):
        for _, scheme, seed, secret in samples():
            n = scheme.suite.size
            values, path = layer_sign(scheme, seed, secret, (0, 0, 0), [1] * n)
            for signature in ((), (values,), (values, path, 0), [values, path], None, 5, (path, values), (values, None),
                              (None, path), (values[:-1], path), (values + [values[0]], path), (values, path[:-1]),
                              (values, path + [path[0]]), (values, tuple(path)), (tuple(values), path),
                              ([values[0] + [1]] + values[1:], path), (values, [path[0][:-1]] + path[1:]),
                              (values, [[256] * n] + path[1:])):
                self.raises(Malformed, layer_candidate, scheme, seed, (0, 0, 0), [1] * n, signature)
                self.raises(Malformed, layer_rows, scheme, seed, (0, 0, 0), [1] * n, signature)


class OneCandidate(Case):
    """Point 119: two signatures with one candidate have equal lists, or two lists with one address and one digest."""

    def setUp(self):
        self.scheme = Stateless(suite_named("small-1"), 4, 1, 1, 1, 1)

    def compare(self, own, others):
        self.assertGreater(len(others), 2)
        digest = self.scheme.suite.digest
        for rows in others:
            there = {row[0][:86]: row[0] for row in rows}
            self.assertEqual(len(there), len(rows))
            unlike = [(row[0], there[row[0][:86]]) for row in own if there.get(row[0][:86], row[0]) != row[0]]
            if unlike:
                self.assertTrue([1 for x, y in unlike if digest(list(x)) == digest(list(y))])
            else:
                self.assertTrue({row[0] for row in own} & set(there.values()))

    def test_plus_signatures(self):
        scheme, at = self.scheme, (0, 0, 0)
        values = plus_sign(scheme, [1], [2], at, [77])
        key = plus_candidate(scheme, [1], at, [77], values)
        others = []
        for k in range(len(values)):
            for by in range(1, 256):
                shown = values[:k] + [changed(values[k], 0, by)] + values[k + 1:]
                for data in ([77], [78]):
                    if plus_candidate(scheme, [1], at, data, shown) == key:
                        others.append(plus_rows(scheme, [1], at, data, shown))
        self.compare(plus_rows(scheme, [1], at, [77], values), others)

    def test_layer_signatures_of_one_tree(self):
        scheme, at = self.scheme, (0, 0, 0)
        values, path = layer_sign(scheme, [1], [2], at, [77])
        root = layer_root(scheme, [1], [2], (0, 0))
        others = [layer_rows(scheme, [1], (0, 0, 1), [5], layer_sign(scheme, [1], [2], (0, 0, 1), [5]))]
        for by in range(1, 256):
            for signature in ((values, [changed(path[0], 0, by)]), ([changed(values[0], 0, by)] + values[1:], path)):
                if layer_candidate(scheme, [1], at, [77], signature) == root:
                    others.append(layer_rows(scheme, [1], at, [77], signature))
        self.compare(layer_rows(scheme, [1], at, [77], (values, path)), others)
