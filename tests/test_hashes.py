"""Points 103 to 105: addressed lists and digests, randomizers, message digests, digits of any number of bits."""

import reference
import reference_stateless
from helpers import Case, some_bytes
from sealgrove.errors import OutOfRange
from sealgrove.hashes import addressed, addressed_list, bit_digits, message_digest, randomizer_of
from sealgrove.suites import suite_named

NAMES = ("small-1", "small-7", "sha-1", "sha-16", "sha-32")
ADDRESSES = ((0, 0, 0, 0, 0, 0), (255, 2 ** 64 - 1, 6, 2 ** 32 - 1, 2 ** 32 - 1, 2 ** 32 - 1), (1, 2, 3, 4, 5, 258))


class Addressed(Case):
    def test_lists_and_digests(self):
        for name in NAMES:
            suite, n = suite_named(name), reference.size(name)
            for address in ADDRESSES:
                for count in (0, 1, n, 35 * n, 200):
                    seed, data = some_bytes(n, 1), some_bytes(count, 2)
                    known = reference_stateless.addressed_list(name, seed, address, data)
                    self.assertEqual(self.pure(addressed_list, suite, seed, address, data), known)
                    self.assertEqual(len(known), 64 + 22 + count)
                    self.assertEqual(self.pure(addressed, suite, seed, address, data), reference.digest(name, known))

    def test_a_list_written_out(self):
        found = addressed_list(suite_named("sha-3"), [7, 8, 9], (1, 2, 3, 4, 5, 258), [6, 6])
        short = [1, 0, 0, 0, 0, 0, 0, 0, 2, 3, 0, 0, 0, 4, 0, 0, 0, 5, 0, 0, 1, 2]
        self.assertEqual(found, [7, 8, 9] + [0] * 61 + short + [6, 6])

    def test_what_is_refused(self):
        for name in NAMES:
            suite, n = suite_named(name), reference.size(name)
            for function in (addressed_list, addressed):
                for seed in ([], [7] * (n - 1), [7] * (n + 1), [7] * 64):
                    self.raises(OutOfRange, function, suite, seed, ADDRESSES[0], [1])
                for address in ((256, 0, 0, 0, 0, 0), (0, 2 ** 64, 0, 0, 0, 0), (0, 0, 7, 0, 0, 0), (0, 0, 0, -1, 0, 0),
                                (0, 0, 0, 0, 2 ** 32, 0), (0, 0, 0, 0, 0, 2 ** 32), (0,) * 5):
                    self.raises(OutOfRange, function, suite, [7] * n, address, [1])


class Messages(Case):
    def test_randomizers(self):
        for name in NAMES:
            suite, n = suite_named(name), reference.size(name)
            key, extra = some_bytes(n, 1), some_bytes(n, 2)
            for count in (0, 1, 55, 64, 300):
                message = some_bytes(count, 3)
                known = reference.mac(name, key, extra + message)[:n]
                self.assertEqual(self.pure(randomizer_of, suite, key, extra, message), known)

    def test_message_digests(self):
        for name in NAMES:
            suite, n = suite_named(name), reference.size(name)
            found, seed, root = some_bytes(n, 1), some_bytes(n, 2), some_bytes(n, 3)
            for count in (0, 1, 31, 32, 33, 64, 65, 203, 1023, 1024):
                message = some_bytes(count % 70, 4)
                inner = reference.whole(name, found + seed + root + message)
                blocks = [reference.whole(name, found + seed + inner + [0, 0, 0, k]) for k in range(33)]
                known = sum(blocks, [])[:count]
                self.assertEqual(self.pure(message_digest, suite, found, seed, root, message, count), known)

    def test_long_messages(self):
        suite = suite_named("small-2")
        message = some_bytes(66000)
        known = reference_stateless.randomizer("small-2", [1, 2], [3, 4], message)
        self.assertEqual(randomizer_of(suite, [1, 2], [3, 4], message), known)
        known = reference_stateless.message_digest("small-2", [1, 2], [3, 4], [5, 6], message, 40)
        self.assertEqual(message_digest(suite, [1, 2], [3, 4], [5, 6], message, 40), known)


class Digits(Case):
    def test_digits(self):
        for b in range(1, 25):
            for size in (0, 1, 2, 3, 7, 24, 25):
                data = some_bytes(size, b)
                for count in range(8 * size // b + 1):
                    known = reference_stateless.bit_digits(data, b, count)
                    self.assertEqual(bit_digits(data, b, count), known)
                self.pure(bit_digits, data, b, 8 * size // b)

    def test_digits_written_out(self):
        self.assertEqual(bit_digits([0b10110011, 0b01000000], 3, 5), [5, 4, 6, 4, 0])
        self.assertEqual(bit_digits([1, 2, 3, 4, 5, 6], 24, 2), [0x010203, 0x040506])
        self.assertEqual(bit_digits([255] * 3, 1, 24), [1] * 24)
        self.assertEqual(bit_digits([0xAB, 0xCD], 4, 4), [10, 11, 12, 13])

    def test_just_enough_bits_and_one_digit_more(self):
        for b in range(1, 25):
            for size in range(30):
                count = 8 * size // b
                self.assertEqual(len(bit_digits([170] * size, b, count)), count)
                self.raises(OutOfRange, bit_digits, [170] * size, b, count + 1)
                self.raises(OutOfRange, bit_digits, [170] * size, b, count + 100)

    def test_what_is_refused(self):
        for b in (-1, 0, 25, 26, 64, 10 ** 5000):
            for count in (0, 1, 2):
                self.raises(OutOfRange, bit_digits, [1] * 100, b, count)
        for count in (-1, -2, -10 ** 5000, 10 ** 5000):
            for b in (1, 8, 24):
                self.raises(OutOfRange, bit_digits, [1] * 100, b, count)
