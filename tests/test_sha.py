"""Points 6 to 9: SHA-256."""

import hashlib
from math import isqrt

from helpers import Case, changed, some_bytes
from sealgrove.sha import compress, round_constants, sha256, start_words

PRIMES = [p for p in range(2, 312) if all(p % q for q in range(2, p))]


def cube_root(number):
    low, high = 0, 2 ** 40
    while low < high:
        middle = (low + high + 1) // 2
        if middle ** 3 <= number:
            low = middle
        else:
            high = middle - 1
    return low


def turned(x, n):
    return (x >> n | x << 32 - n) % 2 ** 32


def compressed(words, block):
    """Point 8, step by step."""
    w = [int.from_bytes(bytes(block[4 * k:4 * k + 4]), "big") for k in range(16)]
    for i in range(16, 64):
        one = turned(w[i - 2], 17) ^ turned(w[i - 2], 19) ^ w[i - 2] >> 10
        zero = turned(w[i - 15], 7) ^ turned(w[i - 15], 18) ^ w[i - 15] >> 3
        w.append((one + w[i - 7] + zero + w[i - 16]) % 2 ** 32)
    state = list(words)
    for k in range(64):
        a, b, c, d, e, f, g, h = state
        choose = e & f ^ (2 ** 32 - 1 - e) & g
        majority = a & b ^ a & c ^ b & c
        constant = cube_root(PRIMES[k] * 2 ** 96) % 2 ** 32
        first = h + (turned(e, 6) ^ turned(e, 11) ^ turned(e, 25)) + choose + constant + w[k]
        second = (turned(a, 2) ^ turned(a, 13) ^ turned(a, 22)) + majority
        state = [(first + second) % 2 ** 32, a, b, c, (d + first) % 2 ** 32, e, f, g]
    return [(x + y) % 2 ** 32 for x, y in zip(words, state)]


class Constants(Case):
    def test_round_constants_are_cube_roots(self):
        constants = self.pure(round_constants)
        self.assertEqual(constants, [cube_root(p * 2 ** 96) % 2 ** 32 for p in PRIMES[:64]])
        self.assertEqual((len(constants), constants[0], constants[63]), (64, 0x428a2f98, 0xc67178f2))

    def test_start_words_are_square_roots(self):
        words = self.pure(start_words)
        self.assertEqual(words, [isqrt(p * 2 ** 64) % 2 ** 32 for p in PRIMES[:8]])
        self.assertEqual((len(words), words[0]), (8, 0x6a09e667))

    def test_a_changed_list_has_no_effect_on_later_calls(self):
        before = sha256([1, 2, 3])
        constants = round_constants()
        words = start_words()
        for k in range(64):
            constants[k] = 0
        for k in range(8):
            words[k] = 0
        self.assertEqual(sha256([1, 2, 3]), before)
        self.assertNotEqual(round_constants(), constants)
        self.assertNotEqual(start_words(), words)


class Compress(Case):
    def check(self, words, block):
        self.assertEqual(self.pure(compress, words, block), compressed(words, block))

    def test_blocks_of_one_byte(self):
        for byte in (0, 1, 127, 128, 255):
            self.check(start_words(), [byte] * 64)

    def test_words_at_their_bounds(self):
        for word in (0, 1, 2 ** 31, 2 ** 32 - 1):
            for block in ([0] * 64, [255] * 64, some_bytes(64)):
                self.check([word] * 8, block)

    def test_many_blocks(self):
        for seed in range(40):
            data = some_bytes(96, seed)
            words = [int.from_bytes(bytes(data[4 * k:4 * k + 4]), "big") for k in range(8)]
            self.check(words, data[32:])

    def test_every_byte_counts(self):
        block = some_bytes(64)
        plain = compress(start_words(), block)
        for at in range(64):
            self.assertNotEqual(compress(start_words(), changed(block, at)), plain)
        for at in range(8):
            words = start_words()
            words[at] ^= 1
            self.assertNotEqual(compress(words, block), plain)


class Sha256(Case):
    def test_published_digests(self):
        for text, known in (
                ("", "e3b0c44298fc1c149afbf4c8996fb92427ae41e4649b934ca495991b7852b855"),
                ("abc", "ba7816bf8f01cfea414140de5dae2223b00361a396177a9cb410ff61f20015ad"),
                ("abcdbcdecdefdefgefghfghighijhijkijkljklmklmnlmnomnopnopq",
                 "248d6a61d20638b8e5c026930c3e6039a33ce45964ff2167f6ecedd419db06c1"),
                ("a" * 1000, "41edece42d63e8d9bf515a9ba6932e1c20cbc9f5a5d134645adb5db1b9737ea3")):
            self.assertEqual(bytes(sha256(list(text.encode()))).hex(), known)

    def test_every_length_to_three_blocks(self):
        for count in range(200):
            with self.subTest(count=count):
                data = some_bytes(count)
                self.assertEqual(sha256(data), list(hashlib.sha256(bytes(data)).digest()))

    def test_lengths_at_the_bounds_of_padding(self):
        for count in (0, 1, 54, 55, 56, 57, 63, 64, 65, 118, 119, 120, 121, 127, 128, 129):
            for byte in (0, 128, 255):
                with self.subTest(count=count, byte=byte):
                    data = [byte] * count
                    self.assertEqual(self.pure(sha256, data), list(hashlib.sha256(bytes(data)).digest()))

    def test_long_lists(self):
        # 8192 bytes are the first length whose number of bits takes three bytes.
        for count in (8191, 8192, 65536, 131072):
            with self.subTest(count=count):
                data = some_bytes(count)
                self.assertEqual(sha256(data), list(hashlib.sha256(bytes(data)).digest()))
