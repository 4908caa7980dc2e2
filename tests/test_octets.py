"""Points 2 and 5: bytes, byte lists, integers, and numbers in bytes."""

from helpers import Case, some_bytes
from sealgrove.errors import OutOfRange
from sealgrove.octets import big, is_bytes, number_of, u8, u16, u32


class Numbers(Case):
    def test_the_highest_byte_stands_first(self):
        self.assertEqual(self.pure(big, 258, 2), [1, 2])
        self.assertEqual(self.pure(big, 258, 4), [0, 0, 1, 2])
        self.assertEqual(self.pure(big, 0x0102030405060708, 8), [1, 2, 3, 4, 5, 6, 7, 8])

    def test_every_size_holds_its_bounds(self):
        for size in range(65):
            with self.subTest(size=size):
                self.assertEqual(self.pure(big, 0, size), [0] * size)
                self.assertEqual(self.pure(big, 256 ** size - 1, size), [255] * size)
                self.raises(OutOfRange, big, 256 ** size, size)
                self.raises(OutOfRange, big, 256 ** size + 1, size)
                self.raises(OutOfRange, big, -1, size)
                self.raises(OutOfRange, big, -256 ** size, size)

    def test_far_too_large_numbers_are_refused(self):
        self.raises(OutOfRange, big, 10 ** 400, 64)
        self.raises(OutOfRange, big, -10 ** 400, 64)
        self.raises(OutOfRange, big, 10 ** 400, 0)

    def test_numbers_that_python_does_not_write(self):
        for number in (10 ** 4299, 10 ** 4300, 10 ** 5000, 1 << 100000):
            for size in (0, 1, 8, 64):
                self.raises(OutOfRange, big, number, size)
                self.raises(OutOfRange, big, -number, size)
            for function in (u8, u16, u32):
                self.raises(OutOfRange, function, number)
                self.raises(OutOfRange, function, -number)

    def test_one_two_and_four_bytes(self):
        for function, size in ((u8, 1), (u16, 2), (u32, 4)):
            with self.subTest(size=size):
                for number in (0, 1, 127, 128, 200, 255, 256 ** size // 3, 256 ** size - 1):
                    self.assertEqual(self.pure(function, number), list(number.to_bytes(size, "big")))
                self.raises(OutOfRange, function, 256 ** size)
                self.raises(OutOfRange, function, -1)

    def test_numbers_are_read_as_they_are_written(self):
        self.assertEqual(number_of([]), 0)
        self.assertEqual(number_of([0]), 0)
        self.assertEqual(number_of([1, 2]), 258)
        self.assertEqual(number_of([0, 0, 1, 2]), 258)
        self.assertEqual(number_of([255] * 64), 256 ** 64 - 1)
        for size in range(65):
            data = some_bytes(size)
            number = self.pure(number_of, data)
            self.assertEqual(number, int.from_bytes(bytes(data), "big"))
            self.assertEqual(big(number, size), data)


class ByteLists(Case):
    def test_byte_lists(self):
        for value in ([], [0], [255], [0, 1, 254, 255], list(range(256))):
            self.assertIs(self.pure(is_bytes, value), True)

    def test_what_is_no_byte_list(self):
        for value in (None, True, False, 0, 7, "", "ab", b"", b"ab", (), (1, 2), {}, {1: 2}, set(), {1}, 1.0, object(),
                      range(3), [256], [-1], [0, 256], [1, -1, 2], [True], [False], [1, True], [0, False], ["a"],
                      ["1"], [None], [1.0], [[1]], [[]], [(1,)], [b"a"], [10 ** 30], bytearray(b"ab"), is_bytes, Case):
            with self.subTest(value=value):
                self.assertIs(is_bytes(value), False)
