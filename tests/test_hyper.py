"""Points 146 and 147: digests that are cut, and hyper signatures."""

import reference_stateless as known
from helpers import Case, changed, some_bytes
from sealgrove.errors import Malformed, OutOfRange
from sealgrove.hyper import cut_digest, hyper_candidate, hyper_sign
from sealgrove.schemes import Stateless, scheme_named
from sealgrove.suites import suite_named

SCHEMES = (("small-1", 4, 1, 1, 2, 1), ("small-2", 4, 1, 1, 1, 3), ("sha-2", 4, 1, 1, 2, 2), ("small-3", 1, 1, 1, 3, 2))


def samples():
    for words in SCHEMES:
        scheme = Stateless(suite_named(words[0]), *words[1:])
        yield words, scheme, some_bytes(scheme.suite.size, 1), some_bytes(scheme.suite.size, 2)


def places(scheme):
    last = 2 ** (scheme.height - scheme.rise) - 1
    return sorted({(0, 0), (last, 2 ** scheme.rise - 1), (last // 2, 1)})


def bad_places(scheme):
    trees = 2 ** (scheme.height - scheme.rise)
    return ((-1, 0), (trees, 0), (2 ** 64, 0), (0, -1), (0, 2 ** scheme.rise), (10 ** 5000, 0), (0, 10 ** 5000))


class Cutting(Case):
    def test_cuts(self):
        for words in SCHEMES + (("sha-16", 4, 12, 14, 9, 7), ("sha-16", 4, 6, 33, 3, 22), ("small-1", 8, 24, 64, 8, 9),
                                ("small-1", 8, 5, 3, 20, 4), ("small-1", 8, 1, 1, 16, 5)):
            scheme = Stateless(suite_named(words[0]), *words[1:])
            for digest in ([0] * scheme.digest_size, [255] * scheme.digest_size, some_bytes(scheme.digest_size, 3)):
                found = self.pure(cut_digest, scheme, digest)
                self.assertEqual(found, known.cut(words, digest))
                self.assertIs(type(found), tuple)
                self.assertLess(found[1], 2 ** (scheme.height - scheme.rise))
                self.assertLess(found[2], 2 ** scheme.rise)

    def test_cuts_written_out(self):
        scheme = Stateless(suite_named("small-1"), 4, 3, 3, 2, 2)
        self.assertEqual(cut_digest(scheme, [1, 2, 255, 254]), ([1, 2], 3, 2))
        # A scheme of one layer has a tree part of no bytes.
        scheme = Stateless(suite_named("small-1"), 4, 3, 3, 2, 1)
        self.assertEqual(cut_digest(scheme, [1, 2, 7]), ([1, 2], 0, 3))
        digest = [9] * 21 + [1, 2, 3, 4, 5, 6, 7] + [3, 4]
        self.assertEqual(cut_digest(scheme_named("sha2-128s"), digest), ([9] * 21, 0x01020304050607 % 2 ** 54, 0x104))

    def test_sizes_that_are_refused(self):
        for _, scheme, _, _ in samples():
            size = scheme.digest_size
            for count in (0, size - 1, size + 1, 2 * size):
                self.raises(OutOfRange, cut_digest, scheme, [1] * count)


class Signatures(Case):
    def test_signatures_and_candidates(self):
        for words, scheme, seed, secret in samples():
            n = scheme.suite.size
            root = known.layer_root(words, seed, secret, (scheme.layers - 1, 0))
            for at in places(scheme):
                data = some_bytes(n, 5)
                signature = self.pure(hyper_sign, scheme, seed, secret, at, data)
                self.assertEqual(signature, known.hyper_sign(words, seed, secret, at, data))
                self.assertEqual(len(signature), scheme.layers)
                self.assertEqual(self.pure(hyper_candidate, scheme, seed, at, data, signature), root)

    def test_changed_signatures(self):
        for words, scheme, seed, secret in samples():
            n, at = scheme.suite.size, places(scheme)[-1]
            data = some_bytes(n, 5)
            signature = hyper_sign(scheme, seed, secret, at, data)
            root = known.layer_root(words, seed, secret, (scheme.layers - 1, 0))
            wrong = [(changed(data, 0), at, signature), (data, (at[0], at[1] ^ 1), signature)]
            for layer, (values, path) in enumerate(signature):
                for part in (([changed(values[0], 0)] + values[1:], path), (values, path[:-1] + [changed(path[-1], 0)])):
                    wrong.append((data, at, signature[:layer] + [part] + signature[layer + 1:]))
            for signed, place, parts in wrong:
                found = hyper_candidate(scheme, seed, place, signed, parts)
                self.assertEqual(found, known.hyper_data(words, seed, place, signed, parts)[-1])
                if n > 2:
                    self.assertNotEqual(found, root)

    def test_what_is_refused(self):
        for _, scheme, seed, secret in samples():
            n = scheme.suite.size
            signature = hyper_sign(scheme, seed, secret, (0, 0), [1] * n)
            for at in bad_places(scheme):
                self.raises(OutOfRange, hyper_sign, scheme, seed, secret, at, [1] * n)
                for shown in (signature, [], None):
                    self.raises(OutOfRange, hyper_candidate, scheme, seed, at, [1] * n, shown)
            for data in ([], [1] * (n - 1), [1] * (n + 1)):
                self.raises(OutOfRange, hyper_sign, scheme, seed, secret, (0, 0), data)
                for shown in (signature, [], None):
                    self.raises(OutOfRange, hyper_candidate, scheme, seed, (0, 0), data, shown)

    def test_what_does_not_have_the_form(self):
        for _, scheme, seed, secret in samples():
            n = scheme.suite.size
            signature = hyper_sign(scheme, seed, secret, (0, 0), [1] * n)
            values, path = signature[0]
            wrong = [[], signature[:-1], signature + [signature[0]], tuple(signature), None, 5]
            for part in ((values,), [values, path], (values[:-1], path), (values, path[:-1]), (values, path + [values[0]]),
                         ([[1] * (n + 1)] + values[1:], path), (values, [[]] + path[1:]), None, (values, path, [])):
                wrong += [[part] + signature[1:], signature[:-1] + [part]]
            for shown in wrong:
                self.raises(Malformed, hyper_candidate, scheme, seed, (0, 0), [1] * n, shown)
