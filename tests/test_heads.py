"""Points 222 and 224 to 230: heads, paths that are checked for them, and clashes."""

import itertools
import random

import reference
import reference_log as known
from helpers import Case, changed, some_bytes
from sealgrove.errors import Refused
from sealgrove.heads import (
    Watcher, accepts_consistency, accepts_inclusion, carry_back, consistency_lists, inclusion_lists, same_entry, two_faces,
)
from sealgrove.logbook import Logbook
from sealgrove.suites import Suite, suite_named
from test_logbook import log_of, some_entries

GREAT = 10 ** 5000


class Recording(Suite):
    """A suite that remembers what it digested."""

    def __init__(self, name):
        found = suite_named(name)
        Suite.__init__(self, found.core, found.size)
        self.seen = []

    def digest(self, data):
        self.seen.append(tuple(data))
        return Suite.digest(self, data)


def is_clash(name, found, lists):
    """A clash of two of the lists."""
    if type(found) is not tuple or len(found) != 3 or found[0] != "clash":
        return False
    _, one, other = found
    return (type(one) is tuple and type(other) is tuple and one != other and one in lists and other in lists
            and reference.digest(name, list(one)) == reference.digest(name, list(other)))


class Inclusion(Case):
    def check(self, name, head, index, entry, path):
        suite = suite_named(name)
        lists = known.inclusion_lists(name, head, index, entry, path)
        self.assertIs(self.pure(accepts_inclusion, suite, head, index, entry, path), lists is not None)
        if lists is None:
            self.raises(Refused, inclusion_lists, suite, head, index, entry, path)
        else:
            self.assertEqual(self.pure(inclusion_lists, suite, head, index, entry, path), lists)
        return lists is not None

    def test_paths_of_logs(self):
        for name in ("small-1", "sha-3"):
            entries = some_entries(20)
            log = log_of(name, entries)
            for count in range(1, 21):
                for index in range(count):
                    self.assertTrue(self.check(name, log.head(count), index, entries[index],
                                               log.inclusion(index, count)))

    def test_the_lists_are_those_that_checking_digests(self):
        for count in range(1, 21):
            log = log_of("small-2", some_entries(count))
            for index in range(count):
                suite = Recording("small-2")
                args = (suite, log.head(), index, log.entry(index), log.inclusion(index))
                self.assertTrue(accepts_inclusion(*args))
                seen = list(suite.seen)
                self.assertEqual(inclusion_lists(*args), seen)
                self.assertEqual(seen, known.inclusion_lists("small-2", *args[1:]))
                self.assertEqual(seen[0], (0, *log.entry(index)))

    def test_what_is_changed(self):
        name = "small-8"
        for count in (1, 2, 3, 5, 6, 7, 8, 13, 20):
            log = log_of(name, some_entries(count))
            head = log.head()
            for index in range(count):
                entry, path = log.entry(index), log.inclusion(index)
                wrong = [(head, at, entry, path) for at in (-1, index - 1, index + 1, count, index - count, GREAT, -GREAT)]
                wrong += [((c, head[1]), index, entry, path)
                          for c in (-1, 0, count - 1, count + 1, 2 * count, -count, 1048577, 2 ** 40, GREAT, -GREAT)]
                wrong += [((count, changed(head[1], at)), index, entry, path) for at in range(8)]
                wrong += [((count, head[1][:-1]), index, entry, path), ((count, []), index, entry, path)]
                wrong += [(head, index, entry + [0], path), (head, index, entry[:-1], path), (head, index, [9] * 9, path)]
                wrong += [(head, index, entry, path + [value]) for value in ([0] * 8, head[1], [])]
                wrong += [(head, index, entry, path[1:]), (head, index, entry, path[:-1])]
                for k, value in enumerate(path):
                    for other in (changed(value, 3), value[:-1], value + [0], [], [256] * 8, [True] * 8, path[k - 1]):
                        wrong.append((head, index, entry, path[:k] + [other] + path[k + 1:]))
                for args in wrong:
                    # An index may be right for another count or for an equal entry: the points tell.
                    self.check(name, *args)
                self.assertFalse(self.check(name, (count, changed(head[1], 0)), index, entry, path))
                self.assertFalse(self.check(name, head, index, entry + [0], path))
                self.assertFalse(self.check(name, head, index, entry, path + [[0] * 8]))
                self.assertFalse(self.check(name, head, count, entry, path))
                self.assertFalse(self.check(name, head, -1, entry, path))

    def test_drawn_paths(self):
        source, accepted = random.Random(222), 0
        for _ in range(3000):
            count, size = source.randrange(9), source.randrange(4)
            path = [[source.randrange(256)] for _ in range(size)]
            args = ((count, [source.randrange(256)]), source.randrange(-1, 9), [source.randrange(4)], path)
            accepted += self.check("small-1", *args)
        self.assertGreater(accepted, 1)

    def test_the_greatest_count(self):
        """The path of an entry of a log of 1048576 equal entries, and one more."""
        name, entry = "small-4", [5]
        values = [reference.digest(name, [0, 5])]
        for _ in range(20):
            values.append(reference.digest(name, known.fork(values[-1], values[-1])))
        for index in (0, 1, 524288, 1048575):
            self.assertTrue(accepts_inclusion(suite_named(name), (1048576, values[20]), index, entry, values[:20]))
        above = reference.digest(name, known.fork(values[20], values[0]))
        path = values[:20] + [values[0]]
        self.assertFalse(accepts_inclusion(suite_named(name), (1048577, above), 3, entry, path))
        self.assertEqual(known.leads(name, 1048577, 3, entry, path, []), above)


class Consistency(Case):
    def check(self, name, first, second, path):
        suite = suite_named(name)
        lists = known.consistency_lists(name, first, second, path)
        self.assertIs(self.pure(accepts_consistency, suite, first, second, path), lists is not None)
        if lists is None:
            self.raises(Refused, consistency_lists, suite, first, second, path)
        else:
            self.assertEqual(self.pure(consistency_lists, suite, first, second, path), lists)
        return lists is not None

    def test_paths_of_logs(self):
        for name in ("small-1", "sha-3"):
            log = log_of(name, some_entries(20))
            for first, second in itertools.combinations_with_replacement(range(21), 2):
                self.assertTrue(self.check(name, log.head(first), log.head(second), log.consistency(first, second)))

    def test_the_lists_are_those_that_checking_digests(self):
        log = log_of("small-2", some_entries(20))
        for first, second in itertools.combinations_with_replacement(range(21), 2):
            suite = Recording("small-2")
            args = (suite, log.head(first), log.head(second), log.consistency(first, second))
            self.assertTrue(accepts_consistency(*args))
            seen = list(suite.seen)
            self.assertEqual(consistency_lists(*args), seen)
            self.assertEqual(seen, known.consistency_lists("small-2", *args[1:]))
            if first == second:
                self.assertEqual(seen, [])
            elif first == 0:
                self.assertEqual(seen, [()])

    def test_what_is_changed(self):
        name = "small-8"
        log = log_of(name, some_entries(20))
        for m, c in itertools.combinations_with_replacement((0, 1, 2, 3, 4, 6, 7, 8, 13, 20), 2):
            first, second, path = log.head(m), log.head(c), log.consistency(m, c)
            counts = (-1, 0, m - 1, m + 1, c, c + 1, 1048577, GREAT, -GREAT)
            wrong = [((count, first[1]), second, path) for count in counts]
            wrong += [(first, (count, second[1]), path) for count in counts]
            wrong += [((count, first[1]), (count, second[1]), path) for count in counts]
            wrong += [((count, first[1]), (count, first[1]), []) for count in counts]
            wrong += [(second, first, path)]
            for at in range(8):
                wrong += [((m, changed(first[1], at)), second, path), (first, (c, changed(second[1], at)), path)]
            wrong += [((m, other), (c, other), path) for other in ([], [1] * 8, first[1][:-1])]
            wrong += [((m, first[1] + [0]), second, path), (first, (c, second[1][:-1]), path)]
            wrong += [(first, second, path + [value]) for value in ([0] * 8, first[1], [])]
            wrong += [(first, second, path[1:]), (first, second, path[:-1])]
            for k, value in enumerate(path):
                for other in (changed(value, 3), value[:-1], value + [0], [], [256] * 8, [True] * 8, path[k - 1]):
                    wrong.append((first, second, path[:k] + [other] + path[k + 1:]))
            for args in wrong:
                self.check(name, *args)
            self.assertFalse(self.check(name, first, (c, changed(second[1], 0)), path) and m > 0)
            self.assertFalse(self.check(name, (m, changed(first[1], 0)), second, path))
            self.assertFalse(self.check(name, first, second, path + [[0] * 8]))

    def test_equal_counts(self):
        """With equal counts the digests need only be equal."""
        for count in (0, 1, 5, 1048576):
            self.assertTrue(self.check("small-2", (count, [1, 2]), (count, [1, 2]), []))
            self.assertFalse(self.check("small-2", (count, [1, 2]), (count, [1, 3]), []))
            self.assertFalse(self.check("small-2", (count, [1, 2]), (count, [1, 2]), [[1, 2]]))
        for count in (-1, 1048577, GREAT, -GREAT):
            self.assertFalse(self.check("small-2", (count, [1, 2]), (count, [1, 2]), []))
            self.assertFalse(self.check("small-2", (0, reference.digest("small-2", [])), (count, [1, 2]), []))

    def test_drawn_paths(self):
        source, accepted = random.Random(224), 0
        for _ in range(6000):
            m, c = sorted((source.randrange(6), source.randrange(9)))
            path = [[source.randrange(3)] for _ in range(source.randrange(5))]
            lists = []
            told = known.tells("small-1", m, c, True, [7], path, lists) if 0 < m < c else None
            first = (m, told[0] if told and source.randrange(2) else [7])
            second = (c, told[1] if told and source.randrange(2) else [source.randrange(256)])
            accepted += self.check("small-1", first, second, path)
        self.assertGreater(accepted, 20)


def forged_inclusions(name, count, index, tries, source, head=None):
    """Accepted inclusion paths under one head, with different entries."""
    found = []
    depth = len(known.inclusion(name, [[]] * count, index))
    for _ in range(tries):
        entry = [source.randrange(256), source.randrange(256)]
        path = [[source.randrange(256)] for _ in range(depth)]
        told = known.leads(name, count, index, entry, path, [])
        if head is None:
            head = (count, told)
        if told == head[1]:
            found.append((entry, path))
    return head, found


class Clashes(Case):
    NAME = "small-1"

    def test_two_entries_at_one_index(self):
        """Point 226."""
        source, suite, made = random.Random(226), suite_named(self.NAME), 0
        for count in (1, 2, 3, 5, 8, 11):
            for index in range(count):
                head, found = forged_inclusions(self.NAME, count, index, 900, source)
                for one, other in itertools.product(found[:3], found[:3]):
                    args = (suite, head, index, one, other)
                    clash = self.pure(same_entry, *args)
                    if one[0] == other[0]:
                        self.assertIsNone(clash)
                    else:
                        made += 1
                        lists = (known.inclusion_lists(self.NAME, head, index, *one)
                                 + known.inclusion_lists(self.NAME, head, index, *other))
                        self.assertTrue(is_clash(self.NAME, clash, lists))
        self.assertGreater(made, 60)

    def test_equal_entries_with_different_paths(self):
        head, found = forged_inclusions(self.NAME, 4, 1, 9000, random.Random(1))
        (entry, path) = found[0]
        others = [[[a], [b]] for a in range(256) for b in range(256)]
        again = [(entry, other) for other in others
                 if known.leads(self.NAME, 4, 1, entry, other, []) == head[1] and other != path][:5]
        for other in again:
            self.assertIsNone(same_entry(suite_named(self.NAME), head, 1, (entry, path), other))
        self.assertTrue(again)

    def test_refusals_for_two_entries(self):
        suite = suite_named("small-2")
        log = log_of("small-2", some_entries(5))
        good = (log.entry(2), log.inclusion(2))
        for wrong in ((log.entry(2), []), (log.entry(2) + [1], good[1]), (log.entry(3), log.inclusion(3))):
            self.raises(Refused, same_entry, suite, log.head(), 2, good, wrong)
            self.raises(Refused, same_entry, suite, log.head(), 2, wrong, good)
            self.raises(Refused, same_entry, suite, log.head(), 2, wrong, wrong)
        for index in (-1, 1, 3, 5, GREAT):
            self.raises(Refused, same_entry, suite, log.head(), index, good, good)
        for count in (-1, 1048577, GREAT):
            self.raises(Refused, same_entry, suite, (count, log.head()[1]), 2, good, good)
        self.assertIsNone(same_entry(suite, log.head(), 2, good, good))

    def carried(self, name, first, second, consistency, index, entry, path):
        """Carry a path back; return what was found, after a look at it."""
        args = (suite_named(name), first, second, consistency, index, entry, path)
        found = self.pure(carry_back, *args)
        lists = (known.consistency_lists(name, first, second, consistency)
                 + known.inclusion_lists(name, second, index, entry, path))
        if found[0] == "path":
            self.assertEqual(len(found), 2)
            back = known.inclusion_lists(name, first, index, entry, found[1])
            self.assertIsNotNone(back)
            # No list is new, so that a clash that is found later is one of these lists, too.
            self.assertLessEqual(set(back), set(lists))
        else:
            self.assertTrue(is_clash(name, found, lists))
        return found

    def test_carrying_back_in_a_log(self):
        entries = some_entries(20)
        log = log_of("small-8", entries)
        for m, c in itertools.combinations_with_replacement(range(1, 21), 2):
            for index in range(m):
                found = self.carried("small-8", log.head(m), log.head(c), log.consistency(m, c), index, entries[index],
                                     log.inclusion(index, c))
                self.assertEqual(found, ("path", log.inclusion(index, m)))

    def test_carrying_back_forged_paths(self):
        """Point 227, with an inclusion path that does not belong to the consistency path."""
        source, words = random.Random(227), {"path": 0, "clash": 0}
        for m, c in ((1, 2), (2, 3), (1, 3), (3, 4), (3, 5), (4, 8), (5, 8), (6, 7), (7, 11), (3, 3), (6, 12)):
            entries = some_entries(c, source.randrange(99))
            log = log_of(self.NAME, entries)
            for index in range(m):
                for entry, path in forged_inclusions(self.NAME, c, index, 700, source, log.head())[1]:
                    found = self.carried(self.NAME, log.head(m), log.head(c), log.consistency(m), index, entry, path)
                    words[found[0]] += 1
        self.assertTrue(words["path"] > 5 and words["clash"] > 50, words)

    def test_refusals_for_carrying_back(self):
        suite = suite_named("small-2")
        log = log_of("small-2", some_entries(8))
        first, second, path, entry = log.head(5), log.head(8), log.consistency(5), log.entry(3)
        good = (suite, first, second, path, 3, entry, log.inclusion(3))
        self.assertEqual(carry_back(*good), ("path", log.inclusion(3, 5)))
        wrong = [(suite, second, first, path, 3, entry, log.inclusion(3)),
                 (suite, first, second, path[1:], 3, entry, log.inclusion(3)),
                 (suite, first, second, [], 3, entry, log.inclusion(3)),
                 (suite, (5, [1, 2]), second, path, 3, entry, log.inclusion(3)),
                 (suite, (4, first[1]), second, path, 3, entry, log.inclusion(3)),
                 (suite, first, second, path, 3, entry, log.inclusion(3)[1:]),
                 (suite, first, second, path, 3, entry + [1], log.inclusion(3)),
                 (suite, first, second, path, 2, entry, log.inclusion(3)),
                 (suite, first, second, path, -1, entry, log.inclusion(3)),
                 (suite, first, (GREAT, second[1]), path, 3, entry, log.inclusion(3))]
        # An index that the first head does not have.
        for index in (5, 6, 7):
            wrong.append((suite, first, second, path, index, log.entry(index), log.inclusion(index)))
        wrong.append((suite, log.head(0), second, [], 3, entry, log.inclusion(3)))
        for args in wrong:
            self.raises(Refused, carry_back, *args)


class Faces(Case):
    NAME = "small-1"

    def check(self, heads, consistencies, index, one, other):
        found = self.pure(two_faces, suite_named(self.NAME), heads, consistencies, index, one, other)
        if one[0] == other[0]:
            self.assertIsNone(found)
        else:
            lists = (known.inclusion_lists(self.NAME, heads[0], index, *one)
                     + known.inclusion_lists(self.NAME, heads[-1], index, *other))
            for first, second, path in zip(heads, heads[1:], consistencies):
                lists += known.consistency_lists(self.NAME, first, second, path)
            self.assertTrue(is_clash(self.NAME, found, lists))
        return found is not None

    def test_drawn_rows_of_heads(self):
        """Point 228: the entries of the log itself need not be seen."""
        source, made = random.Random(228), 0
        for _ in range(60):
            size = source.randrange(1, 14)
            entries = some_entries(size, source.randrange(999))
            log = log_of(self.NAME, entries)
            counts = sorted(source.randrange(1, size + 1) for _ in range(source.randrange(1, 5)))
            heads = [log.head(count) for count in counts]
            paths = [log.consistency(one, other) for one, other in zip(counts, counts[1:])]
            index = source.randrange(counts[0])
            ones = [(entries[index], log.inclusion(index, counts[0]))]
            ones += forged_inclusions(self.NAME, counts[0], index, 400, source, heads[0])[1][:2]
            others = [(entries[index], log.inclusion(index, counts[-1]))]
            others += forged_inclusions(self.NAME, counts[-1], index, 400, source, heads[-1])[1][:2]
            for one, other in itertools.product(ones, others):
                made += self.check(heads, paths, index, one, other)
        self.assertGreater(made, 60)

    def test_forged_consistency_paths(self):
        """A log that shows another past: its path from the first head is forged."""
        source, made = random.Random(2281), 0
        for _ in range(400):
            size = source.randrange(3, 10)
            first, second = some_entries(size, source.randrange(999)), some_entries(size, source.randrange(999))
            m = source.randrange(1, size)
            heads = [known.head(self.NAME, first, m), known.head(self.NAME, second, size)]
            path = known.consistency(self.NAME, second, m)
            forged = [[value if k != at else [byte] for k, value in enumerate(path)]
                      for at in range(len(path)) for byte in range(256)]
            for consistency in forged:
                if known.consistency_lists(self.NAME, *heads, consistency) is not None:
                    index = source.randrange(m)
                    one = (first[index], known.inclusion(self.NAME, first[:m], index))
                    other = (second[index], known.inclusion(self.NAME, second, index))
                    made += self.check(heads, [consistency], index, one, other)
                    break
        self.assertGreater(made, 5)

    def test_refusals(self):
        suite = suite_named("small-2")
        log = log_of("small-2", some_entries(8))
        heads = [log.head(3), log.head(5), log.head(8)]
        paths = [log.consistency(3, 5), log.consistency(5, 8)]
        one, other = (log.entry(1), log.inclusion(1, 3)), (log.entry(1), log.inclusion(1))
        self.assertIsNone(two_faces(suite, heads, paths, 1, one, other))
        wrong = [([], [], 1, one, one), ([], paths, 1, one, other), (heads, paths[:1], 1, one, other),
                 (heads, [], 1, one, other), (heads, paths + [[]], 1, one, other), (heads[:1], paths, 1, one, one),
                 (heads[:1], [[]], 1, one, one), (heads, paths[::-1], 1, one, other), (heads[::-1], paths, 1, other, one),
                 (heads, [paths[0], []], 1, one, other), (heads, [[], paths[1]], 1, one, other),
                 (heads, paths, 1, other, one), (heads, paths, 1, other, other), (heads, paths, 1, one, one),
                 (heads, paths, 2, one, other), (heads, paths, -1, one, other), (heads, paths, GREAT, one, other),
                 (heads, paths, 1, (one[0] + [1], one[1]), other), (heads, paths, 1, one, (other[0] + [1], other[1])),
                 ([heads[0], (5, [1, 2]), heads[2]], paths, 1, one, other)]
        # An index that only later heads have.
        late = (log.entry(4), log.inclusion(4))
        wrong.append((heads, paths, 4, late, late))
        for args in wrong:
            self.raises(Refused, two_faces, suite, *args)
        self.assertIsNone(two_faces(suite, heads[:1], [], 1, one, one))

    def test_paths_that_are_not_carried_through(self):
        """All paths are looked at, also if a clash is found before they are needed."""
        source = random.Random(2282)
        log = log_of(self.NAME, some_entries(8))
        heads = [log.head(3), log.head(5), log.head(8)]
        forged = forged_inclusions(self.NAME, 8, 1, 3000, source, heads[2])[1]
        one = (log.entry(1), log.inclusion(1, 3))
        for other in forged[:6]:
            for wrong in ([[], log.consistency(5, 8)], [log.consistency(3, 5), []]):
                self.raises(Refused, two_faces, suite_named(self.NAME), heads, wrong, 1, one, other)


class Logs(Case):
    """Point 229: what is accepted under the head of a log is the log's own, or there is a clash."""

    NAME = "small-1"

    def test_inclusion_paths(self):
        source, made = random.Random(229), 0
        for count in (1, 2, 3, 5, 7, 8):
            log = log_of(self.NAME, some_entries(count))
            for index in range(count):
                own = (log.entry(index), log.inclusion(index))
                for found in forged_inclusions(self.NAME, count, index, 500, source, log.head())[1]:
                    if found[0] != own[0]:
                        made += 1
                        clash = same_entry(suite_named(self.NAME), log.head(), index, own, found)
                        lists = (known.inclusion_lists(self.NAME, log.head(), index, *own)
                                 + known.inclusion_lists(self.NAME, log.head(), index, *found))
                        self.assertTrue(is_clash(self.NAME, clash, lists))
        self.assertGreater(made, 30)

    def test_consistency_paths(self):
        source, made = random.Random(2291), 0
        for _ in range(3000):
            size = source.randrange(2, 8)
            entries = some_entries(size, source.randrange(99))
            m = source.randrange(1, size)
            path = known.consistency(self.NAME, entries, m)
            at = source.randrange(len(path))
            path[at] = [source.randrange(256)]
            second = known.head(self.NAME, entries, size)
            told = known.tells(self.NAME, m, size, True, [source.randrange(256)], path, [])
            if told[1] != second[1] or told[0] == known.log_digest(self.NAME, entries[:m]):
                continue
            if known.consistency_lists(self.NAME, (m, told[0]), second, path) is None:
                continue
            made += 1
            lists = known.consistency_lists(self.NAME, (m, told[0]), second, path)
            whole = []
            for index in range(size):
                known.leads(self.NAME, size, index, entries[index], known.inclusion(self.NAME, entries, index), whole)
            digests = {tuple(reference.digest(self.NAME, list(data))): data for data in whole}
            self.assertTrue(any(digests.get(tuple(reference.digest(self.NAME, list(data))), data) != data
                                for data in lists))
        self.assertGreater(made, 5)


class Watchers(Case):
    def test_the_first_head(self):
        for name in ("small-1", "sha-32"):
            watcher = Watcher(suite_named(name))
            self.assertEqual(self.pure(watcher.head), (0, reference.digest(name, [])))

    def test_following_a_log(self):
        source = random.Random(230)
        for name in ("small-2", "sha-3"):
            log, watcher = Logbook(suite_named(name)), Watcher(suite_named(name))
            for k in range(40):
                if source.randrange(3) > 0:
                    log.append(some_bytes(source.randrange(4), k))
                before = watcher.head()
                count = source.randrange(log.length() + 1)
                path = log.consistency(before[0], count) if before[0] <= count else []
                head = log.head(count)
                taken = watcher.take(head, path)
                self.assertIs(taken, before[0] <= count)
                self.assertEqual(watcher.head(), head if taken else before)
                head[1].append(0)
                self.assertEqual(len(watcher.head()[1]), log.head(count)[1].__len__())

    def test_heads_that_are_left(self):
        log, other = log_of("small-2", some_entries(9)), log_of("small-2", some_entries(9, 77))
        watcher = Watcher(suite_named("small-2"))
        self.assertIs(watcher.take(log.head(4), log.consistency(0, 4)), True)
        for head, path in ((other.head(9), other.consistency(4, 9)), (log.head(9), []), (log.head(9), log.consistency(3, 9)),
                           (log.head(3), []), (log.head(3), log.consistency(3, 4)), (other.head(4), []),
                           ((4, [1, 2]), []), ((GREAT, [1, 2]), []), ((-1, log.head(4)[1]), []), (log.head(0), []),
                           (log.head(4), [[1, 2]])):
            self.assertIs(watcher.take(head, path), False)
            self.assertEqual(watcher.head(), log.head(4))
        self.assertIs(watcher.take(log.head(4), []), True)
        self.assertIs(watcher.take(log.head(9), log.consistency(4)), True)
        self.assertEqual(watcher.head(), log.head(9))

    def test_two_watchers_of_one_log(self):
        """What two watchers took from one log is consistent, whoever asked when."""
        log = log_of("small-2", some_entries(12))
        one, other = Watcher(suite_named("small-2")), Watcher(suite_named("small-2"))
        for count in (3, 7, 12):
            one.take(log.head(count), log.consistency(one.head()[0], count))
        other.take(log.head(5), log.consistency(0, 5))
        self.assertIs(other.take(one.head(), log.consistency(5, 12)), True)
        self.assertEqual(one.head(), other.head())
