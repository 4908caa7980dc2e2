"""Points 25 to 29: parameters, codes, coefficients, digits and check sums."""

import reference
from helpers import Case, some_bytes
from sealgrove.coefficients import OneTime, coefficient, lower, one_time_of
from sealgrove.errors import Malformed, OutOfRange
from sealgrove.suites import Suite, suite_named

WIDTHS = (1, 2, 4, 8)
NOT_WIDTHS = (-8, -1, 0, 3, 5, 6, 7, 9, 16, 32, 256)
TABLE = (
    ("sha-32", 1, 256, 9, 7, 265),
    ("sha-32", 2, 128, 5, 6, 133),
    ("sha-32", 4, 64, 3, 4, 67),
    ("sha-32", 8, 32, 2, 0, 34),
    ("small-1", 4, 2, 2, 8, 4),
    ("small-2", 2, 8, 3, 10, 11),
)


def all_kinds():
    return [OneTime(Suite(core, size), width) for core in (0, 1) for size in range(1, 33) for width in WIDTHS]


class Parameters(Case):
    def test_the_table(self):
        for name, width, u, v, ls, p in TABLE:
            kind = OneTime(suite_named(name), width)
            self.assertEqual((kind.u, kind.v, kind.ls, kind.p), (u, v, ls, p))
            self.assertEqual((kind.width, kind.top), (width, 2 ** width - 1))

    def test_all_parameters(self):
        for kind in all_kinds():
            known = reference.parameters(kind.suite.name, kind.width)
            self.assertEqual((kind.top, kind.u, kind.v, kind.ls, kind.p), known)
            self.assertGreaterEqual(kind.ls, 0)

    def test_the_suite_is_a_field(self):
        suite = suite_named("small-7")
        kind = OneTime(suite, 4)
        self.assertEqual((kind.suite.core, kind.suite.size, kind.suite.name), (1, 7, "small-7"))

    def test_widths_that_are_none(self):
        for width in NOT_WIDTHS:
            self.raises(OutOfRange, OneTime, suite_named("small-2"), width)


class Codes(Case):
    def test_codes(self):
        self.assertEqual([OneTime(suite_named("sha-32"), width).code for width in WIDTHS], [1, 2, 3, 4])
        self.assertEqual(OneTime(suite_named("small-32"), 1).code, 3758096384 + 65536 + 8192 + 1)
        self.assertEqual(OneTime(suite_named("sha-31"), 8).code, 3758096384 + 256 * 31 + 8)
        for kind in all_kinds():
            if kind.suite.name != "sha-32":
                known = 3758096384 + 65536 * kind.suite.core + 256 * kind.suite.size + kind.width
                self.assertEqual(kind.code, known)

    def test_there_and_back(self):
        kinds = all_kinds()
        self.assertEqual(len({kind.code for kind in kinds}), len(kinds))
        for kind in kinds:
            found = one_time_of(kind.code)
            self.assertIs(type(found), OneTime)
            self.assertEqual((found.suite.name, found.width, found.code), (kind.suite.name, kind.width, kind.code))

    def test_codes_that_are_none(self):
        codes = {kind.code for kind in all_kinds()}
        near = {code + step for code in codes for step in (-65536, -256, -8, -2, -1, 1, 2, 8, 256, 65536, 131072)}
        base = 3758096384
        near |= set(range(-300, 300)) | {base + k for k in (-1, 0, 1, 255, 256, 257 + 2 * 65536, 33 * 256 + 1)}
        near |= {base + 256 * 32 + width for width in WIDTHS}
        near |= {2 ** 31, 2 ** 32 - 1, 2 ** 32, 2 ** 32 + 1, 2 ** 64, -base, base + 2 ** 32 + 257, -2 ** 40}
        for code in sorted(near - codes):
            with self.subTest(code=code):
                self.raises(Malformed, one_time_of, code)


class Coefficients(Case):
    def test_all_of_a_list(self):
        for count in (1, 2, 3, 32):
            for data in (some_bytes(count), [0] * count, [255] * count):
                for width in WIDTHS:
                    known = reference.coefficients(data, width)
                    self.assertEqual([self.pure(coefficient, data, k, width) for k in range(len(known))], known)

    def test_the_highest_bits_come_first(self):
        self.assertEqual([coefficient([0b10010110], k, 1) for k in range(8)], [1, 0, 0, 1, 0, 1, 1, 0])
        self.assertEqual([coefficient([0b10010110], k, 2) for k in range(4)], [2, 1, 1, 2])
        self.assertEqual([coefficient([18, 52], k, 8) for k in range(2)], [18, 52])

    def test_indexes_that_are_none(self):
        for count in (0, 1, 2, 5):
            for width in WIDTHS:
                many = 8 * count // width
                for index in (-many, -1, many, many + 1, many + 100, 10 ** 30):
                    if index < 0 or index >= many:
                        self.raises(OutOfRange, coefficient, [7] * count, index, width)
                if count:
                    self.assertEqual(coefficient([255] * count, many - 1, width), 2 ** width - 1)

    def test_widths_that_are_none(self):
        for width in NOT_WIDTHS:
            self.raises(OutOfRange, coefficient, [1, 2, 3, 4], 0, width)


class Digits(Case):
    def samples(self, size):
        return [some_bytes(size, seed) for seed in range(6)] + [[0] * size, [255] * size, [1] * size, [128] * size]

    def test_digits_and_check_sums(self):
        for kind in all_kinds():
            for digest in self.samples(kind.suite.size):
                known = reference.digits(kind.suite.name, kind.width, digest)
                self.assertEqual(self.pure(kind.digits, digest), known)
                self.assertEqual(self.pure(kind.check_sum, digest), sum(kind.top - d for d in known[:kind.u]))
                self.assertEqual(len(known), kind.p)

    def test_the_bounds_of_the_check_sum(self):
        for kind in all_kinds():
            size = kind.suite.size
            self.assertEqual(kind.check_sum([255] * size), 0)
            self.assertEqual(kind.digits([255] * size), [kind.top] * kind.u + [0] * kind.v)
            self.assertEqual(kind.check_sum([0] * size), kind.u * kind.top)
            last = kind.digits([0] * size)[kind.u:]
            self.assertEqual(sum(d * (kind.top + 1) ** k for k, d in enumerate(reversed(last))), kind.u * kind.top)

    def test_digests_of_a_wrong_length(self):
        for kind in all_kinds():
            size = kind.suite.size
            for count in (0, size - 1, size + 1, 2 * size, 40):
                if count != size:
                    self.raises(OutOfRange, kind.digits, [0] * count)
                    self.raises(OutOfRange, kind.check_sum, [0] * count)

    def test_unlike_digests_are_lower_somewhere_both_ways(self):
        for width in WIDTHS:
            kind = OneTime(suite_named("small-1"), width)
            every = [kind.digits([byte]) for byte in range(256)]
            for one in range(256):
                self.assertEqual(lower(every[one], every[one]), [])
                for other in range(one):
                    self.assertTrue(lower(every[one], every[other]))
                    self.assertTrue(lower(every[other], every[one]))
        kind = OneTime(suite_named("sha-32"), 4)
        for seed in range(50):
            one, other = kind.digits(some_bytes(32, seed)), kind.digits(some_bytes(32, seed + 1))
            self.assertTrue(lower(one, other))
            self.assertTrue(lower(other, one))


class Lower(Case):
    def test_lower_both_ways(self):
        self.assertEqual(self.pure(lower, [1, 5, 3, 0], [2, 5, 1, 9]), [0, 3])
        self.assertEqual(self.pure(lower, [2, 5, 1, 9], [1, 5, 3, 0]), [2])
        self.assertEqual(lower([], []), [])
        self.assertEqual(lower([0], [255]), [0])
        self.assertEqual(lower([255], [0]), [])

    def test_lists_of_unlike_lengths(self):
        for one, other in (([], [1]), ([1], []), ([1, 2], [1]), ([1], [1, 2]), ([0] * 11, [1] * 12)):
            self.raises(OutOfRange, lower, one, other)
