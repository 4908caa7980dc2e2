"""Points 52, 53, 55, 60 and 61: batches, openings, and their rows."""

import reference
from helpers import Case, changed, some_bytes
from sealgrove.batch import (
    batch_head, batch_height, batch_leaves, batch_opening, batch_rows, blank_text, fork_text, head_text, item_text,
    joint_head, joint_opening, joint_rows, opened_head,
)
from sealgrove.errors import Malformed, OutOfRange
from sealgrove.suites import suite_named
from sealgrove.tree import parting

NAMES = ("small-2", "sha-5")
EQUAL = [[1, 2]] * 5


def batches():
    """Batches of many sizes, also with equal and empty messages."""
    for count in (1, 2, 3, 4, 5, 6, 7, 8, 9):
        yield [some_bytes(k % 5, k) for k in range(count)]
    yield EQUAL
    yield [[]] * 3


def some_places(count):
    found = [[k] for k in range(count)] + [list(range(count)), list(range(0, count, 2)), [0, count - 1]]
    return [places for places in found if places == sorted(set(places))]


class Texts(Case):
    def test_heights(self):
        for height in range(17):
            self.assertEqual(batch_height(2 ** height), height)
            if height > 0:
                self.assertEqual(batch_height(2 ** (height - 1) + 1), height)
        self.assertEqual([batch_height(count) for count in (1, 2, 3, 4, 5, 65535, 65536)], [0, 1, 2, 2, 3, 16, 16])
        for count in (-1, 0, 65537, 2 ** 32, 2 ** 40):
            self.raises(OutOfRange, batch_height, count)

    def test_the_texts_written_out(self):
        self.assertEqual(self.pure(item_text, 0x01020304, 0x05060708, [9, 9]), [0, 1, 2, 3, 4, 5, 6, 7, 8, 9, 9])
        self.assertEqual(self.pure(item_text, 1, 0, []), [0, 0, 0, 0, 1, 0, 0, 0, 0])
        self.assertEqual(self.pure(blank_text, 0x01020304, 0x05060708), [1, 1, 2, 3, 4, 5, 6, 7, 8])
        self.assertEqual(self.pure(fork_text, 3, 0x05060708, [1, 2], [3, 4]), [2, 0, 0, 0, 3, 5, 6, 7, 8, 1, 2, 3, 4])
        self.assertEqual(self.pure(head_text, 0x01020304, [7, 8]), [3, 1, 2, 3, 4, 7, 8])

    def test_the_texts_check_nothing(self):
        self.assertEqual(item_text(0, 5, [1])[:9], [0, 0, 0, 0, 0, 0, 0, 0, 5])
        self.assertEqual(blank_text(70000, 70001), [1, 0, 1, 17, 112, 0, 1, 17, 113])
        self.assertEqual(fork_text(200, 2 ** 32 - 1, [], [1, 2, 3]), [2, 0, 0, 0, 200, 255, 255, 255, 255, 1, 2, 3])
        self.assertEqual(head_text(70000, []), [3, 0, 1, 17, 112])
        self.assertEqual(len(item_text(1, 0, [0] * 65540)), 65549)


class Heads(Case):
    def test_leaves_and_heads(self):
        for name in NAMES:
            suite = suite_named(name)
            for messages in batches():
                leaves = self.pure(batch_leaves, suite, messages)
                self.assertEqual(leaves, reference.batch_leaves(name, messages))
                self.assertEqual(len(leaves), 2 ** batch_height(len(messages)))
                self.assertEqual(self.pure(batch_head, suite, messages), reference.batch_head(name, messages))

    def test_one_message(self):
        suite = suite_named("small-2")
        digest = reference.digest("small-2", [0, 0, 0, 0, 1, 0, 0, 0, 0, 7])
        self.assertEqual(batch_head(suite, [[7]]), [3, 0, 0, 0, 1] + digest)

    def test_blank_leaves(self):
        suite = suite_named("sha-5")
        leaves = batch_leaves(suite, [[1], [2], [3], [4], [5]])
        for k in (5, 6, 7):
            self.assertEqual(leaves[k], reference.digest("sha-5", [1, 0, 0, 0, 5, 0, 0, 0, k]))

    def test_numbers_of_messages_that_are_none(self):
        suite = suite_named("small-1")
        for messages in ([], [[]] * 65537):
            self.raises(OutOfRange, batch_leaves, suite, messages)
            self.raises(OutOfRange, batch_head, suite, messages)
            self.raises(OutOfRange, batch_opening, suite, messages, 0)
            self.raises(OutOfRange, joint_opening, suite, messages, [0])
            self.raises(OutOfRange, joint_opening, suite, messages, [])

    def test_the_greatest_batch(self):
        suite = suite_named("small-1")
        messages = [[k % 256] for k in range(65536)]
        leaves = batch_leaves(suite, messages)
        self.assertEqual((len(leaves), leaves[65535]), (65536, suite.digest(item_text(65536, 65535, [255]))))


class Openings(Case):
    def test_openings(self):
        for name in NAMES:
            suite = suite_named(name)
            for messages in batches():
                leaves = reference.batch_leaves(name, messages)
                head = reference.batch_head(name, messages)
                for index, message in enumerate(messages):
                    opening = self.pure(batch_opening, suite, messages, index)
                    path = reference.path(name, leaves, reference.fork_text, index)
                    self.assertEqual(opening, (len(messages), index, path))
                    self.assertIs(type(opening), tuple)
                    self.assertEqual(self.pure(opened_head, suite, message, opening), head)

    def test_indexes_that_are_none(self):
        suite = suite_named("small-2")
        for messages in batches():
            for index in (-1, len(messages), len(messages) + 1, 2 ** 20):
                self.raises(OutOfRange, batch_opening, suite, messages, index)

    def test_another_message_or_opening_has_another_head(self):
        suite = suite_named("sha-32")
        messages = [[1], [2], [3], [4], [5]]
        head = batch_head(suite, messages)
        c, i, path = batch_opening(suite, messages, 3)
        for message, opening in (([5], (c, i, path)), ([4, 0], (c, i, path)), ([4], (c, 2, path)), ([4], (6, i, path)),
                                 ([4], (c, i, path[::-1])), ([4], (c, i, [changed(path[0], 0)] + path[1:])),
                                 ([4], (c, i, path[:2] + [changed(path[2], 31)]))):
            self.assertNotEqual(opened_head(suite, message, opening), head)
        for k in range(5):
            self.assertNotEqual(opened_head(suite, messages[k], batch_opening(suite, messages, (k + 1) % 5)), head)

    def test_openings_that_are_none(self):
        suite = suite_named("small-2")
        good = [1, 2]
        for function in (opened_head, batch_rows):
            for count in (-1, 0, 65537, 2 ** 32):
                for index in (-1, 0, 1):
                    self.raises(OutOfRange, function, suite, [1], (count, index, []))
            for count, height in ((1, 0), (2, 1), (3, 2), (5, 3), (65536, 16)):
                for index in (-1, count, count + 1, 65536):
                    self.raises(OutOfRange, function, suite, [1], (count, index, [good] * height))
                    self.raises(OutOfRange, function, suite, [1], (count, index, [[1]] * (height + 1)))
                for many in {0, height - 1, height + 1, height + 9, 26} - {height, -1}:
                    self.raises(Malformed, function, suite, [1], (count, count - 1, [good] * many))
                for at in range(height):
                    for wrong in ([], [1], [1, 2, 3], [1, 256], None):
                        path = [good] * height
                        path[at] = wrong
                        self.raises(Malformed, function, suite, [1], (count, 0, path))
                self.pure(function, suite, [1], (count, count - 1, [good] * height))

    def test_blank_places_cannot_be_opened(self):
        suite = suite_named("small-2")
        for index in (3, 4):
            self.raises(OutOfRange, opened_head, suite, [], (3, index, [[1, 2], [1, 2]]))


class Rows(Case):
    def hangs(self, name, rows, head):
        shown = {tuple(head[5:])}
        for data, items, loose in rows:
            self.assertIn(tuple(reference.digest(name, list(data))), shown)
            self.assertIs(loose, False)
            shown |= set(items)

    def test_rows(self):
        for name in NAMES:
            suite = suite_named(name)
            for messages in batches():
                head = batch_head(suite, messages)
                c = len(messages)
                for index, message in enumerate(messages):
                    opening = batch_opening(suite, messages, index)
                    rows = self.pure(batch_rows, suite, message, opening)
                    known = [reference.row([0] + reference.num(c, 4) + reference.num(index, 4) + message, [])]
                    value, i = reference.digest(name, known[0][0]), index
                    for z, s in enumerate(opening[2]):
                        left, right = (value, s) if i % 2 == 0 else (s, value)
                        i //= 2
                        text = reference.fork_text(z + 1, i, left, right)
                        known.insert(0, reference.row(text, [left, right]))
                        value = reference.digest(name, text)
                    self.assertEqual(rows, known)
                    self.assertIs(type(rows), list)
                    self.hangs(name, rows, head)

    def test_joint_rows(self):
        for name in NAMES:
            suite = suite_named(name)
            for messages in batches():
                head = batch_head(suite, messages)
                c = len(messages)
                leaves = reference.batch_leaves(name, messages)
                for places in some_places(c):
                    opening = joint_opening(suite, messages, places)
                    chosen = [messages[k] for k in places]
                    rows = self.pure(joint_rows, suite, chosen, opening)
                    known = []
                    for z in range(batch_height(c), 0, -1):
                        for i in sorted({k // 2 ** z for k in places}):
                            both = [reference.tree_value(name, leaves, reference.fork_text, z - 1, j)
                                    for j in (2 * i, 2 * i + 1)]
                            known.append(reference.row(reference.fork_text(z, i, *both), both))
                    known += [reference.row(reference.item_text(c, k, messages[k]), []) for k in places]
                    self.assertEqual(rows, known)
                    self.hangs(name, rows, head)

    def test_two_openings_of_one_index_part(self):
        """Point 61."""
        suite = suite_named("small-1")
        messages = [[1], [2], [3]]
        head = batch_head(suite, messages)
        opening = batch_opening(suite, messages, 1)
        rows = batch_rows(suite, [2], opening)
        parted = 0
        for a in range(256):
            for b in range(6):
                message, other = [a], (3, 1, [[b]] + opening[2][1:] if b < 5 else opening[2])
                if opened_head(suite, message, other) == head and (message, other) != ([2], opening):
                    one, two = parting(suite, rows, batch_rows(suite, message, other))
                    self.assertNotEqual(one, two)
                    self.assertEqual(suite.digest(list(one)), suite.digest(list(two)))
                    parted += 1
        self.assertGreater(parted, 0)


class JointOpenings(Case):
    def test_joint_openings(self):
        for name in NAMES:
            suite = suite_named(name)
            for messages in batches():
                leaves = reference.batch_leaves(name, messages)
                head = reference.batch_head(name, messages)
                for places in some_places(len(messages)):
                    opening = self.pure(joint_opening, suite, messages, places)
                    nodes = reference.joint_places(len(leaves).bit_length() - 1, places)
                    path = [reference.tree_value(name, leaves, reference.fork_text, z, i) for z, i in nodes]
                    self.assertEqual(opening, (len(messages), places, path))
                    self.assertIs(type(opening), tuple)
                    chosen = [messages[k] for k in places]
                    self.assertEqual(self.pure(joint_head, suite, chosen, opening), head)

    def test_places_that_are_none(self):
        suite = suite_named("small-2")
        messages = [[1], [2], [3], [4], [5]]
        for places in ([-1], [5], [7], [8], [0, 5], [5, 0], [1, 1, 5], [5, 5]):
            self.raises(OutOfRange, joint_opening, suite, messages, places)
        for places in ([], [0, 0], [1, 0], [0, 2, 1], [4, 4]):
            self.raises(Malformed, joint_opening, suite, messages, places)

    def test_joint_openings_that_are_none(self):
        suite = suite_named("small-2")
        good = [1, 2]
        for function in (joint_head, joint_rows):
            for count in (-1, 0, 65537, 2 ** 32):
                for places in ([0], [], [0, 0]):
                    self.raises(OutOfRange, function, suite, [[1]], (count, places, []))
            for places in ([-1], [3], [0, 3], [3, 0], [0, 0, 3], [4]):
                self.raises(OutOfRange, function, suite, [[1]] * len(places), (3, places, []))
                self.raises(OutOfRange, function, suite, [], (3, places, [[1]]))
            for places in ([], [0, 0], [1, 0], [2, 1, 0]):
                for many in range(4):
                    self.raises(Malformed, function, suite, [[1]] * len(places), (3, places, [good] * many))
            for places, need in (([0], 2), ([0, 2], 2), ([0, 1], 1), ([0, 1, 2], 1)):
                chosen = [[1]] * len(places)
                self.pure(function, suite, chosen, (3, places, [good] * need))
                for many in (0, 1, 2, 3, 9):
                    if many != need:
                        self.raises(Malformed, function, suite, chosen, (3, places, [good] * many))
                for wrong in ([], [1], [1, 2, 3], [1, 256], None):
                    self.raises(Malformed, function, suite, chosen, (3, places, [good] * (need - 1) + [wrong]))
                    self.raises(Malformed, function, suite, chosen, (3, places, [wrong] + [good] * (need - 1)))
                for many in (0, len(places) - 1, len(places) + 1):
                    if many != len(places):
                        self.raises(Malformed, function, suite, [[1]] * many, (3, places, [good] * need))

    def test_another_message_has_another_head(self):
        suite = suite_named("sha-32")
        messages = [[1], [2], [3], [4], [5]]
        head = batch_head(suite, messages)
        opening = joint_opening(suite, messages, [1, 3])
        self.assertEqual(joint_head(suite, [[2], [4]], opening), head)
        for chosen in ([[4], [2]], [[2], [3]], [[2], []], [[2, 0], [4]]):
            self.assertNotEqual(joint_head(suite, chosen, opening), head)
        c, places, path = opening
        for other in ((c, [1, 2], path), (6, places, path), (c, places, [changed(path[0], 0)] + path[1:]),
                      (c, places, path[::-1])):
            self.assertNotEqual(joint_head(suite, [[2], [4]], other), head)
