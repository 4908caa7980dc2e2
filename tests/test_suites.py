"""Points 11 to 13: suites, keyed digests and stretching."""

import hashlib
import hmac

import reference
from helpers import Case, some_bytes
from sealgrove.errors import Malformed, OutOfRange
from sealgrove.suites import Suite, suite_named

NAMES = [f"{word}-{size}" for word in ("sha", "small") for size in range(1, 33)]


class Names(Case):
    def test_all_suites(self):
        for core, word in ((0, "sha"), (1, "small")):
            for size in range(1, 33):
                name = f"{word}-{size}"
                for suite in (Suite(core, size), suite_named(name)):
                    self.assertIs(type(suite), Suite)
                    self.assertEqual((suite.core, suite.size, suite.name), (core, size, name))

    def test_names_that_are_none(self):
        for word in ("sha", "small"):
            for end in ("-0", "-33", "-34", "-99", "-100", "-01", "-032", "-00", "--1", "-+1", "-", "", "1", "-1 ",
                        "- 1", " -1", "-1\n", "-1.0", "-0x1", "_1", "-1_0", "-three", "-1-1", "-\u0663", "-\u00b2"):
                self.raises(Malformed, suite_named, word + end)
        for name in ("", "-", "-1", "1", "sha", "SHA-32", "Sha-32", "Small-2", "SMALL-2", " sha-32", "sha-32 ", "sha256",
                     "sha256-32", "sha2-32", "smal-2", "smalls-2", "md5-16", "0-32", "sha small-2", "sha-1 "):
            self.raises(Malformed, suite_named, name)

    def test_cores_and_sizes_that_are_none(self):
        for core in (-1, 2, 3, 256, True, False, None, "0", "sha", 0.0, 1.0, [], ()):
            self.raises(OutOfRange, Suite, core, 32)
            self.raises(OutOfRange, Suite, core, 0)
        for size in (-1, 0, 33, 34, 256, True, False, None, "3", 3.0, [], [3], ()):
            for core in (0, 1):
                self.raises(OutOfRange, Suite, core, size)

    def test_the_core_is_looked_at_first(self):
        # Both errors are OutOfRange; only the words can tell them apart, and they are free.
        # So the order shows where the size cannot even be looked at.
        class Odd(int):
            def __le__(self, other):
                raise AssertionError("the size was looked at")
            __lt__ = __ge__ = __gt__ = __eq__ = __le__
            __hash__ = int.__hash__

        self.raises(OutOfRange, Suite, 2, Odd(5))


class Digests(Case):
    def test_whole_digests_and_digests(self):
        for name in NAMES:
            suite = suite_named(name)
            for data in ([], [0], [1, 2, 3], some_bytes(64), some_bytes(100)):
                self.assertEqual(self.pure(suite.whole, data), reference.whole(name, data))
                self.assertEqual(self.pure(suite.digest, data), reference.whole(name, data)[:suite.size])
                self.assertEqual(len(suite.whole(data)), 32)

    def test_long_lists(self):
        data = some_bytes(131072)
        for name in ("sha-32", "small-3"):
            self.assertEqual(suite_named(name).whole(data), reference.whole(name, data))


class KeyedDigests(Case):
    def test_keys_of_all_lengths(self):
        for name in ("sha-32", "sha-5", "small-32", "small-1"):
            suite = suite_named(name)
            for count in (0, 1, 31, 32, 33, 63, 64, 65, 66, 127, 128, 129, 200):
                for data in ([], [1], some_bytes(64), some_bytes(130)):
                    with self.subTest(name=name, count=count, data=len(data)):
                        key = some_bytes(count, 7)
                        self.assertEqual(self.pure(suite.mac, key, data), reference.mac(name, key, data))

    def test_it_is_hmac(self):
        for count in (0, 20, 64, 65, 131):
            key, data = some_bytes(count), some_bytes(50)
            known = hmac.new(bytes(key), bytes(data), hashlib.sha256).digest()
            self.assertEqual(suite_named("sha-32").mac(key, data), list(known))
        # The second case of RFC 4231.
        known = suite_named("sha-32").mac(list(b"Jefe"), list(b"what do ya want for nothing?"))
        self.assertEqual(bytes(known).hex(), "5bdcc146bf60754e6a042426089575c75a003f089d2739839dec58b964ec3843")

    def test_it_is_whole_for_each_size(self):
        for size in (1, 7, 32):
            self.assertEqual(len(Suite(0, size).mac([1], [2])), 32)
            self.assertEqual(Suite(0, size).mac([1], [2]), Suite(0, 32).mac([1], [2]))
        # A key that is too long is replaced by its whole digest, also where digests are short.
        key = some_bytes(65)
        self.assertEqual(Suite(0, 1).mac(key, [2]), Suite(0, 1).mac(reference.whole("sha-1", key), [2]))

    def test_long_keys_and_data(self):
        for name in ("sha-32", "small-32"):
            key, data = some_bytes(131072), some_bytes(131008)
            self.assertEqual(suite_named(name).mac(key, data), reference.mac(name, key, data))


class Stretching(Case):
    def test_counts(self):
        for name in ("sha-32", "sha-4", "small-32", "small-1"):
            suite = suite_named(name)
            for data in ([], [5], some_bytes(40)):
                blocks = [reference.whole(name, data + [0, 0, 0, k]) for k in range(32)]
                joined = [byte for block in blocks for byte in block]
                for count in (0, 1, 2, 31, 32, 33, 63, 64, 65, 100, 1000, 1023, 1024):
                    with self.subTest(name=name, count=count):
                        self.assertEqual(self.pure(suite.stretch, data, count), joined[:count])

    def test_a_shorter_one_is_the_beginning_of_a_longer_one(self):
        suite = suite_named("small-2")
        longest = suite.stretch([1, 2], 200)
        for count in range(200):
            self.assertEqual(suite.stretch([1, 2], count), longest[:count])
