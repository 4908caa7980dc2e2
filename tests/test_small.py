"""Point 10: the small core."""

import reference
from helpers import Case, some_bytes
from sealgrove.small import small_core


class Small(Case):
    def test_the_empty_list(self):
        # The register is 1, then 1 * 31 + 0 + 7 = 38, then 38 * 16807 + 11 modulo 65521.
        register = (38 * 16807 + 11) % 65521
        result = self.pure(small_core, [])
        self.assertEqual(len(result), 32)
        self.assertEqual(result[0], register % 256)
        self.assertEqual(result[1], (register * 16807 + 11) % 65521 % 256)

    def test_one_byte(self):
        register = ((257 + 5 + 1) * 31 + 1 + 7) % 65521
        self.assertEqual(small_core([5])[0], (register * 16807 + 11) % 65521 % 256)

    def test_many_lists(self):
        for count in list(range(70)) + [255, 256, 257, 1000, 65536]:
            with self.subTest(count=count):
                data = some_bytes(count)
                self.assertEqual(self.pure(small_core, data), reference.small(data))
        for byte in (0, 1, 254, 255):
            for count in (1, 2, 3, 64):
                self.assertEqual(small_core([byte] * count), reference.small([byte] * count))

    def test_two_lists_with_one_result(self):
        for y in range(242):
            self.assertEqual(small_core([0, y + 14]), small_core([255, y]))
        self.assertNotEqual(small_core([0, 14]), small_core([255, 1]))
        self.assertEqual(small_core([0, 20, 9, 9]), small_core([255, 6, 9, 9]))

    def test_the_number_of_bytes_counts(self):
        self.assertNotEqual(small_core([]), small_core([0]))
        self.assertNotEqual(small_core([0]), small_core([0, 0]))
