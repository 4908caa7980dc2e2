"""Points 30 to 33: the byte lists of a place, and walks."""

import reference
from helpers import Case, some_bytes
from sealgrove.chains import ends_list, message_list, randomizer_list, secret_list, step_list, walk
from sealgrove.errors import OutOfRange
from sealgrove.suites import suite_named

IDENTIFIER = list(range(100, 116))
LAST = 4294967295


class Lists(Case):
    def test_the_parts_written_out(self):
        place = IDENTIFIER + [1, 2, 3, 4]
        q = 0x01020304
        self.assertEqual(self.pure(step_list, IDENTIFIER, q, 0x0506, 7, [8, 9]), place + [5, 6, 7, 8, 9])
        self.assertEqual(self.pure(secret_list, IDENTIFIER, q, 0x0506, [8, 9]), place + [5, 6, 255, 8, 9])
        self.assertEqual(self.pure(randomizer_list, IDENTIFIER, q, [8, 9]), place + [255, 253, 255, 8, 9])
        self.assertEqual(self.pure(ends_list, IDENTIFIER, q, [[8, 9], [1, 2], [5, 5]]),
                         place + [128, 128, 8, 9, 1, 2, 5, 5])
        self.assertEqual(self.pure(message_list, IDENTIFIER, q, [8, 9], [1, 2, 3]), place + [129, 129, 8, 9, 1, 2, 3])

    def test_numbers_at_their_bounds(self):
        for q in (0, LAST):
            four = reference.num(q, 4)
            for chain in (0, 65535):
                two = reference.num(chain, 2)
                for step in (0, 254, 255):
                    self.assertEqual(step_list(IDENTIFIER, q, chain, step, [1]), IDENTIFIER + four + two + [step, 1])
                self.assertEqual(secret_list(IDENTIFIER, q, chain, [1]), IDENTIFIER + four + two + [255, 1])
            self.assertEqual(randomizer_list(IDENTIFIER, q, [1]), IDENTIFIER + four + [255, 253, 255, 1])
            self.assertEqual(ends_list(IDENTIFIER, q, [[1]]), IDENTIFIER + four + [128, 128, 1])
            self.assertEqual(message_list(IDENTIFIER, q, [1], []), IDENTIFIER + four + [129, 129, 1])

    def test_empty_messages_and_long_ones(self):
        self.assertEqual(len(message_list(IDENTIFIER, 0, [], [])), 22)
        self.assertEqual(len(message_list(IDENTIFIER, 0, [1] * 32, [2] * 65536)), 54 + 65536)

    def calls(self, identifier, q):
        small = suite_named("small-2")
        return [
            (step_list, identifier, q, 0, 0, [1]), (secret_list, identifier, q, 0, [1]),
            (randomizer_list, identifier, q, [1]), (ends_list, identifier, q, [[1]]),
            (message_list, identifier, q, [1], [2]), (walk, small, identifier, q, 0, 0, 2, [1, 2]),
        ]

    def test_identifiers_and_numbers_that_are_none(self):
        for call in self.calls(IDENTIFIER, 5):
            self.pure(*call)
        for identifier in ([], [0], [1] * 15, [1] * 17, [1] * 32):
            for call in self.calls(identifier, 5):
                self.raises(OutOfRange, *call)
        for q in (-1, LAST + 1, 2 ** 64):
            for call in self.calls(IDENTIFIER, q):
                self.raises(OutOfRange, *call)

    def test_chains_and_steps_that_are_none(self):
        small = suite_named("small-2")
        for chain in (-1, 65536, 2 ** 40):
            self.raises(OutOfRange, step_list, IDENTIFIER, 0, chain, 0, [1])
            self.raises(OutOfRange, secret_list, IDENTIFIER, 0, chain, [1])
            self.raises(OutOfRange, walk, small, IDENTIFIER, 0, chain, 0, 1, [1, 2])
        for step in (-1, 256, 1000):
            self.raises(OutOfRange, step_list, IDENTIFIER, 0, 0, step, [1])


class Walks(Case):
    def test_walks_follow_the_step_lists(self):
        for name in ("sha-32", "sha-3", "small-2"):
            suite = suite_named(name)
            value = some_bytes(suite.size)
            reached = value
            for stop in range(20):
                self.assertEqual(self.pure(walk, suite, IDENTIFIER, 9, 3, 0, stop, value), reached)
                reached = reference.digest(name, IDENTIFIER + [0, 0, 0, 9, 0, 3, stop] + reached)

    def test_a_walk_in_two_parts(self):
        suite = suite_named("small-3")
        for start, middle, stop in ((0, 0, 255), (0, 100, 255), (0, 255, 255), (3, 4, 5), (200, 254, 255), (7, 7, 7)):
            half = walk(suite, IDENTIFIER, LAST, 65535, start, middle, [4, 5, 6])
            whole = walk(suite, IDENTIFIER, LAST, 65535, start, stop, [4, 5, 6])
            self.assertEqual(walk(suite, IDENTIFIER, LAST, 65535, middle, stop, half), whole)
            self.assertEqual(whole, reference.once_walk("small-3", IDENTIFIER, LAST, 65535, start, stop, [4, 5, 6]))

    def test_from_a_step_to_itself(self):
        value = [1, 2]
        for step in (0, 1, 100, 255):
            reached = self.pure(walk, suite_named("small-2"), IDENTIFIER, 0, 0, step, step, value)
            self.assertEqual(reached, value)
            self.assertIsNot(reached, value)

    def test_steps_out_of_order(self):
        suite = suite_named("small-2")
        for start, stop in ((-1, 0), (-1, -1), (-5, 255), (1, 0), (255, 254), (0, 256), (256, 256), (300, 200), (0, -1)):
            self.raises(OutOfRange, walk, suite, IDENTIFIER, 0, 0, start, stop, [1, 2])
