"""Points 100 and 101: schemes, their sizes, and those that have names."""

import itertools

import reference
from helpers import Case
from sealgrove.coefficients import OneTime
from sealgrove.errors import NotThere, OutOfRange
from sealgrove.schemes import Stateless, scheme_named
from sealgrove.suites import suite_named


def up(bits):
    return -(-bits // 8)


class Schemes(Case):
    def fields(self, name, w, a, k, rise, layers):
        suite = suite_named(name)
        scheme = Stateless(suite, w, a, k, rise, layers)
        n = reference.size(name)
        p = reference.parameters(name, w)[4]
        self.assertIs(scheme.suite, suite)
        self.assertEqual((scheme.width, scheme.a, scheme.k, scheme.rise, scheme.layers), (w, a, k, rise, layers))
        self.assertIs(type(scheme.one_time), OneTime)
        self.assertIs(scheme.one_time.suite, suite)
        self.assertEqual((scheme.one_time.width, scheme.one_time.p), (w, p))
        height = rise * layers
        self.assertEqual(scheme.height, height)
        sizes = up(k * a), up(height - rise), up(rise)
        self.assertEqual((scheme.picks_size, scheme.tree_size, scheme.leaf_size), sizes)
        self.assertEqual(scheme.digest_size, sum(sizes))
        self.assertEqual((scheme.public_size, scheme.secret_size), (2 * n, 4 * n))
        self.assertEqual(scheme.signature_size, n * (1 + k * (a + 1) + height + layers * p))

    def test_fields(self):
        for name, w in (("small-1", 1), ("small-1", 8), ("sha-16", 4), ("sha-31", 2), ("sha-32", 8)):
            for a, k, (rise, layers) in itertools.product(
                    (1, 2, 8, 23, 24), (1, 2, 7, 8, 63, 64), ((1, 1), (1, 32), (2, 32), (3, 22), (8, 9), (9, 7), (16, 5),
                                                             (20, 1), (20, 4))):
                self.fields(name, w, a, k, rise, layers)

    def test_sizes_written_out(self):
        scheme = Stateless(suite_named("small-1"), 4, 3, 3, 2, 2)
        self.assertEqual((scheme.height, scheme.picks_size, scheme.tree_size, scheme.leaf_size), (4, 2, 1, 1))
        self.assertEqual((scheme.digest_size, scheme.public_size, scheme.secret_size), (4, 2, 4))
        self.assertEqual(scheme.signature_size, 1 + 3 * 4 + 4 + 2 * 4)
        self.assertEqual(Stateless(suite_named("small-1"), 4, 3, 3, 2, 1).tree_size, 0)

    def test_numbers_out_of_their_bounds(self):
        good = {"suite": suite_named("small-1"), "width": 4, "a": 3, "k": 3, "rise": 2, "layers": 2}
        for word, values in (("width", (-1, 0, 3, 5, 6, 7, 9, 16)), ("a", (-1, 0, 25, 26, 1000)), ("k", (-1, 0, 65, 1000)),
                             ("rise", (-1, 0, 21, 1000)), ("layers", (-1, 0, 33, 1000))):
            for value in values:
                self.raises(OutOfRange, Stateless, **{**good, word: value})
                self.raises(OutOfRange, Stateless, **{**good, word: value, "layers": value if word == "layers" else 1})

    def test_the_product(self):
        suite = suite_named("small-1")
        for rise in range(1, 21):
            for layers in range(1, 33):
                if rise * (layers - 1) <= 64:
                    self.assertEqual(Stateless(suite, 4, 3, 3, rise, layers).height, rise * layers)
                else:
                    self.raises(OutOfRange, Stateless, suite, 4, 3, 3, rise, layers)


class Names(Case):
    def test_the_two_names(self):
        for name, w, a, k, rise, layers, sizes in (
                ("sha2-128s", 4, 12, 14, 9, 7, (63, 21, 7, 2, 30, 32, 64, 7856)),
                ("sha2-128f", 4, 6, 33, 3, 22, (66, 25, 8, 1, 34, 32, 64, 17088))):
            scheme = scheme_named(name)
            self.assertIs(type(scheme), Stateless)
            self.assertEqual(scheme.suite.name, "sha-16")
            self.assertEqual((scheme.width, scheme.a, scheme.k, scheme.rise, scheme.layers), (w, a, k, rise, layers))
            self.assertEqual((scheme.height, scheme.picks_size, scheme.tree_size, scheme.leaf_size, scheme.digest_size,
                              scheme.public_size, scheme.secret_size, scheme.signature_size), sizes)
            self.assertIsNot(scheme_named(name), scheme)

    def test_other_names(self):
        for name in ("", "sha2-128", "sha2-128S", "SHA2-128s", "sha2-128s ", " sha2-128f", "sha2-128ff", "sha-128s",
                     "sha2-192s", "sha2-256f", "shake-128s", "sha2_128s", "sha-16", "sha2-128s\n"):
            self.raises(NotThere, scheme_named, name)
