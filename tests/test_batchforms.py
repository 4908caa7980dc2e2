"""Points 54 and 56: batch signatures as bytes."""

import reference
from helpers import Case, some_bytes
from sealgrove.batch import batch_opening, joint_opening
from sealgrove.batchforms import batch_bytes, batch_of, joint_bytes, joint_of
from sealgrove.errors import Malformed, OutOfRange
from sealgrove.suites import suite_named

MESSAGES = [[k] for k in range(9)]


def u32(number):
    return reference.num(number, 4)


class Single(Case):
    def test_there_and_back(self):
        for name in ("small-1", "sha-5"):
            suite = suite_named(name)
            for count in (1, 2, 3, 5, 8, 9):
                for index in range(count):
                    opening = batch_opening(suite, MESSAGES[:count], index)
                    for signature in ([], [5], some_bytes(40)):
                        data = self.pure(batch_bytes, suite, opening, signature)
                        path = [byte for value in opening[2] for byte in value]
                        self.assertEqual(data, u32(count) + u32(index) + path + signature)
                        found = self.pure(batch_of, suite, data)
                        self.assertEqual(found, (opening, signature))
                        self.assertEqual((type(found), type(found[0])), (tuple, tuple))

    def test_the_bounds_of_counts(self):
        suite = suite_named("small-2")
        data = u32(65536) + u32(65535) + [7] * 32
        self.assertEqual(batch_of(suite, data), ((65536, 65535, [[7, 7]] * 16), []))
        self.assertEqual(batch_bytes(suite, *batch_of(suite, data)), data)
        self.assertEqual(batch_of(suite, [0, 0, 0, 1, 0, 0, 0, 0]), ((1, 0, []), []))

    def test_openings_that_are_none(self):
        suite = suite_named("small-2")
        good = [1, 2]
        for count, index in ((0, 0), (-1, 0), (65537, 0), (2 ** 32, 0), (3, 3), (3, -1), (1, 1), (2, 2 ** 32)):
            self.raises(OutOfRange, batch_bytes, suite, (count, index, []), [])
            self.raises(OutOfRange, batch_bytes, suite, (count, index, [[1]]), [])
        for path in ([], [good], [good] * 3, [good, [1]], [[], good], [good, [1, 2, 3]], [good, [1, 256]]):
            self.raises(Malformed, batch_bytes, suite, (3, 2, path), [])

    def test_lists_that_are_refused(self):
        suite = suite_named("small-2")
        whole = u32(5) + u32(4) + [1, 2, 3, 4, 5, 6]
        self.assertEqual(batch_of(suite, whole), ((5, 4, [[1, 2], [3, 4], [5, 6]]), []))
        for cut in range(len(whole)):
            self.raises(Malformed, batch_of, suite, whole[:cut])
        for count, index in ((0, 0), (65537, 0), (65536 * 256, 0), (2 ** 32 - 1, 0), (2 ** 31, 5), (5, 5), (5, 6), (1, 1),
                             (5, 2 ** 32 - 1), (4, 7), (0, 2 ** 32 - 1)):
            self.raises(Malformed, batch_of, suite, u32(count) + u32(index) + [0] * 200)
        for wrong in ([], [0] * 7, [0] * 8, [0] * 100, [255] * 100, whole[:-1] + [256], whole[:-1] + [True]):
            self.raises(Malformed, batch_of, suite, wrong)
        shortest = u32(1) + u32(0)
        for cut in range(8):
            self.raises(Malformed, batch_of, suite, shortest[:cut])
        for at in range(8):
            # Each byte of the two numbers counts.
            self.raises(Malformed, batch_of, suite, shortest[:at] + [1 + shortest[at]] + shortest[at + 1:])

    def test_each_list_that_is_read_is_written_again(self):
        suite = suite_named("small-1")
        read = 0
        for count in range(4):
            for index in range(4):
                for length in range(5):
                    data = u32(count) + u32(index) + some_bytes(length)
                    try:
                        found = batch_of(suite, data)
                    except Malformed:
                        continue
                    self.assertEqual(batch_bytes(suite, *found), data)
                    read += 1
        self.assertEqual(read, 5 + 2 * 4 + 3 * 3)


class Joint(Case):
    def test_there_and_back(self):
        for name in ("small-1", "sha-5"):
            suite = suite_named(name)
            for count in (1, 2, 3, 5, 8, 9):
                for places in ([0], [count - 1], list(range(count)), list(range(0, count, 2)), list(range(count // 2, count))):
                    opening = joint_opening(suite, MESSAGES[:count], places)
                    for signature in ([], [5], some_bytes(40)):
                        data = self.pure(joint_bytes, suite, opening, signature)
                        parts = u32(count) + u32(len(places))
                        parts += [byte for place in places for byte in u32(place)]
                        parts += [byte for value in opening[2] for byte in value]
                        self.assertEqual(data, parts + signature)
                        found = self.pure(joint_of, suite, data)
                        self.assertEqual(found, (opening, signature))
                        self.assertEqual((type(found), type(found[0])), (tuple, tuple))

    def test_the_shortest_lists(self):
        suite = suite_named("small-2")
        self.assertEqual(joint_of(suite, u32(1) + u32(1) + u32(0)), ((1, [0], []), []))
        self.assertEqual(joint_of(suite, u32(2) + u32(2) + u32(0) + u32(1)), ((2, [0, 1], []), []))
        data = u32(65536) + u32(1) + u32(65535) + [7] * 32
        self.assertEqual(joint_of(suite, data), ((65536, [65535], [[7, 7]] * 16), []))

    def test_openings_that_are_none(self):
        suite = suite_named("small-2")
        good = [1, 2]
        for count, places in ((0, [0]), (-1, []), (65537, [0]), (2 ** 32, [0]), (3, [3]), (3, [-1]), (3, [0, 3]),
                              (3, [3, 3]), (0, [])):
            self.raises(OutOfRange, joint_bytes, suite, (count, places, []), [])
            self.raises(OutOfRange, joint_bytes, suite, (count, places, [[1]]), [])
        for places, path in (([], []), ([0, 0], []), ([1, 0], [good]), ([0], [good]), ([0], [good] * 3), ([0, 1], []),
                             ([0, 1], [good, good]), ([0, 1], [[1]]), ([0], [good, []]), ([0], [[1, 2, 3], good]),
                             ([0, 1], [[1, 256]])):
            self.raises(Malformed, joint_bytes, suite, (3, places, path), [])

    def test_lists_that_are_refused(self):
        suite = suite_named("small-2")
        whole = u32(5) + u32(2) + u32(1) + u32(4) + [1, 2, 3, 4, 5, 6, 7, 8]
        self.assertEqual(joint_of(suite, whole), ((5, [1, 4], [[1, 2], [3, 4], [5, 6], [7, 8]]), []))
        for cut in range(len(whole)):
            self.raises(Malformed, joint_of, suite, whole[:cut])
        for count, many, places in (
                (0, 1, [0]), (65537, 1, [0]), (2 ** 32 - 1, 1, [0]), (0, 0, []), (5, 0, []), (5, 0, [1]), (5, 1, [5]),
                (5, 1, [2 ** 32 - 1]), (5, 2, [1, 5]), (5, 2, [1, 1]), (5, 2, [2, 1]), (5, 2, [7, 1]), (5, 3, [0, 2, 2]),
                (5, 3, [0, 2, 1]), (5, 6, [0, 1, 2, 3, 4, 5]), (5, 2 ** 32 - 1, [0, 1, 2]), (5, 100, [0, 1, 2]),
                (1, 2, [0, 0]), (1, 2, [0, 1])):
            parts = u32(count) + u32(many) + [byte for place in places for byte in u32(place)]
            self.raises(Malformed, joint_of, suite, parts + [0] * 60)
            self.raises(Malformed, joint_of, suite, parts)
        for wrong in ([], [0] * 7, [0] * 8, [0] * 100, [255] * 100, whole[:-1] + [256], whole[:-1] + [True]):
            self.raises(Malformed, joint_of, suite, wrong)
        shortest = u32(1) + u32(1) + u32(0)
        for cut in range(12):
            self.raises(Malformed, joint_of, suite, shortest[:cut])
        for at in range(12):
            self.raises(Malformed, joint_of, suite, shortest[:at] + [1 + shortest[at]] + shortest[at + 1:])

    def test_each_list_that_is_read_is_written_again(self):
        suite = suite_named("small-1")
        read = 0
        for count in range(5):
            for places in ([], [0], [1], [3], [0, 1], [1, 0], [0, 2], [1, 2, 3], [0, 1, 2, 3]):
                for length in range(5):
                    data = u32(count) + u32(len(places)) + [byte for place in places for byte in u32(place)]
                    data += some_bytes(length)
                    try:
                        found = joint_of(suite, data)
                    except Malformed:
                        continue
                    self.assertEqual(found[0][:2], (count, places))
                    self.assertEqual(joint_bytes(suite, *found), data)
                    read += 1
        # A count of 1 has one set of places, of 2 three, of 3 four, of 4 seven.
        self.assertEqual(read, 5 + (4 + 4 + 5) + (3 + 3 + 4 + 3) + (3 + 3 + 3 + 4 + 3 + 4 + 5))
