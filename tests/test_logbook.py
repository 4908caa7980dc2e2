"""Points 220, 221, 223 and 231: logs."""

import random
import unittest.mock

import reference
import reference_log as known
from helpers import Case, some_bytes
from sealgrove import logbook as module
from sealgrove.errors import NotThere, OutOfRange, UsedUp
from sealgrove.logbook import Logbook, entry_list, fork_list, head_text, log_digest, split_of
from sealgrove.suites import suite_named

NAMES = ("small-1", "small-2", "sha-3", "sha-32")


def some_entries(count, seed=0):
    source = random.Random(seed)
    return [some_bytes(source.randrange(5), seed + k) for k in range(count)]


def log_of(name, entries):
    log = Logbook(suite_named(name))
    for entry in entries:
        log.append(entry)
    return log


class Texts(Case):
    def test_lists(self):
        for entry in ([], [7], [0, 255, 3]):
            self.assertEqual(self.pure(entry_list, entry), [0] + entry)
        self.assertEqual(self.pure(fork_list, [1, 2], [3, 4]), [1, 1, 2, 3, 4])
        for head in ((0, [9]), (1, [9, 8]), (2 ** 32 - 1, []), (258, some_bytes(32))):
            self.assertEqual(self.pure(head_text, head), [2] + reference.num(head[0], 4) + head[1])

    def test_texts_of_heads_are_no_other_texts(self):
        """The first bytes tell a leaf list, a fork list, a head, a message, a warrant and a withdrawal apart."""
        firsts = [entry_list([2])[0], fork_list([2], [2])[0], head_text((2, [2]))[0], 77, 87, 88]
        self.assertEqual(len(set(firsts)), 6)

    def test_splits(self):
        for count in list(range(2, 300)) + [1048575, 1048576, 1048577, 2 ** 39]:
            self.assertEqual(split_of(count), known.split(count))
        for count in (1, 0, -1, -2 ** 70, -10 ** 5000):
            self.raises(OutOfRange, split_of, count)

    def test_digests(self):
        for name in NAMES:
            for count in range(21):
                entries = some_entries(count)
                self.assertEqual(self.pure(log_digest, suite_named(name), entries), known.log_digest(name, entries))


class Logs(Case):
    def test_against_the_points(self):
        for name in ("small-1", "small-2", "sha-3"):
            entries = some_entries(20, 5)
            log = Logbook(suite_named(name))
            for count in range(21):
                self.assertEqual(log.length(), count)
                self.assertEqual(self.pure(log.entries), entries[:count])
                self.assertEqual(self.pure(log.head), known.head(name, entries, count))
                if count < 20:
                    self.assertEqual(log.append(entries[count]), count)
            for count in range(21):
                self.assertEqual(self.pure(log.head, count), known.head(name, entries, count))
                self.assertIs(type(log.head(count)), tuple)
                for index in range(count):
                    self.assertEqual(self.pure(log.inclusion, index, count),
                                     known.inclusion(name, entries[:count], index))
                for first in range(count + 1):
                    self.assertEqual(self.pure(log.consistency, first, count),
                                     known.consistency(name, entries[:count], first))

    def test_logs_that_grow_between_the_questions(self):
        """What was worked out before does not count for entries behind it."""
        source, name = random.Random(220), "small-2"
        for _ in range(20):
            entries, log = some_entries(25, source.randrange(1000)), Logbook(suite_named(name))
            for k, entry in enumerate(entries):
                log.append(entry)
                count = source.randrange(k + 2)
                self.assertEqual(log.head(count), known.head(name, entries, count))
                self.assertEqual(log.head(), known.head(name, entries, k + 1))
                self.assertEqual(log.inclusion(k), known.inclusion(name, entries[:k + 1], k))
                self.assertEqual(log.consistency(count), known.consistency(name, entries[:k + 1], count))

    def test_the_count_of_all_entries(self):
        for count in range(9):
            log = log_of("small-2", some_entries(count))
            self.assertEqual(log.head(None), log.head(count))
            self.assertEqual(log.head(count=None), log.head(count=count))
            for index in range(count):
                self.assertEqual(log.entry(index), some_entries(count)[index])
                self.assertEqual(log.inclusion(index), log.inclusion(index, count))
                self.assertEqual(log.consistency(index), log.consistency(index, count=count))

    def test_what_is_not_there(self):
        for count in range(6):
            log = log_of("small-2", some_entries(count))
            before = log.entries()
            for wrong in (-1, count + 1, -count - 1, 10 ** 5000, -10 ** 5000):
                self.raises(NotThere, log.head, wrong)
                self.raises(NotThere, log.entry, wrong)
                self.raises(NotThere, log.consistency, 0, wrong)
                self.raises(NotThere, log.inclusion, 0, wrong)
                self.raises(NotThere, log.inclusion, wrong)
                self.raises(NotThere, log.inclusion, wrong, count)
                self.raises(NotThere, log.consistency, wrong)
                self.raises(NotThere, log.consistency, wrong, count)
                self.raises(NotThere, log.consistency, wrong, wrong)
            self.raises(NotThere, log.entry, count)
            for at in range(count + 1):
                self.raises(NotThere, log.inclusion, at, at)
                self.raises(NotThere, log.consistency, at + 1, at)
                self.assertEqual(log.consistency(at, at), [])
                self.assertEqual(log.consistency(0, at), [])
            self.assertEqual(log.entries(), before)

    def test_long_entries(self):
        log = Logbook(suite_named("small-2"))
        entry = some_bytes(65536)
        self.assertEqual(log.append(entry), 0)
        self.raises(OutOfRange, log.append, entry + [0])
        self.raises(OutOfRange, log.append, [0] * 70000)
        self.assertEqual((log.length(), log.entry(0)), (1, entry))
        self.assertEqual(log.head()[1], known.log_digest("small-2", [entry]))

    def test_full_logs(self):
        with unittest.mock.patch.object(module, "MOST_ENTRIES", 5):
            log = log_of("small-1", [[]] * 5)
            self.raises(UsedUp, log.append, [1])
            # A length comes before a number of entries.
            self.raises(OutOfRange, log.append, [0] * 65537)
            self.assertEqual(log.entries(), [[]] * 5)
        self.assertEqual(module.MOST_ENTRIES, 1048576)

    def test_a_log_with_all_entries_that_it_may_have(self):
        log, entry = Logbook(suite_named("small-1")), [3]
        for _ in range(1048576):
            log.append(entry)
        self.raises(UsedUp, log.append, entry)
        self.assertEqual((log.length(), log.entry(1048575)), (1048576, [3]))
        self.raises(NotThere, log.entry, 1048576)
        self.assertEqual(log.head(3), known.head("small-1", [[3]] * 3, 3))

    def test_entries_are_copied(self):
        log, entry = Logbook(suite_named("small-2")), [1, 2]
        log.append(entry)
        entry[0] = 9
        self.assertEqual(log.entries(), [[1, 2]])
        for found in (log.entry(0), log.entries()[0], log.head()[1]):
            found.append(7)
        self.assertEqual((log.entry(0), log.head()), ([1, 2], known.head("small-2", [[1, 2]], 1)))
