"""Points 106 to 109: one-time keys with addresses."""

import reference
import reference_stateless as known
from helpers import Case, changed, some_bytes
from sealgrove.errors import Malformed, OutOfRange
from sealgrove.plus import (
    plus_candidate, plus_ends_list, plus_key, plus_rows, plus_run, plus_sign, plus_step_list, plus_value,
)
from sealgrove.schemes import Stateless
from sealgrove.suites import suite_named

SCHEMES = (("small-1", 4, 3, 3, 2, 2), ("small-2", 1, 2, 2, 1, 3), ("small-3", 8, 1, 1, 3, 1), ("sha-2", 2, 1, 1, 20, 4),
           ("sha-16", 4, 1, 1, 1, 1))


def samples():
    """Schemes as words and as objects, with a seed and a secret seed."""
    for words in SCHEMES:
        scheme = Stateless(suite_named(words[0]), *words[1:])
        yield words, scheme, some_bytes(scheme.suite.size, 1), some_bytes(scheme.suite.size, 2)


def places(scheme):
    last = 2 ** scheme.rise - 1
    return ((0, 0, 0), (255, 2 ** 64 - 1, last), (1, 258, last // 2))


def bad_places(scheme):
    for at in ((-1, 0, 0), (256, 0, 0), (0, -1, 0), (0, 2 ** 64, 0), (0, 0, -1), (0, 0, 2 ** scheme.rise),
               (0, 0, 2 ** 32), (10 ** 5000, 0, 0), (0, 10 ** 5000, 0), (0, 0, 10 ** 5000)):
        yield at


class Lists(Case):
    def test_lists(self):
        for words, scheme, seed, _ in samples():
            one_time = scheme.one_time
            value = some_bytes(scheme.suite.size, 3)
            for at in places(scheme):
                for chain in sorted({0, 1, one_time.p - 1}):
                    for step in sorted({0, one_time.top // 2, one_time.top - 1}):
                        found = self.pure(plus_step_list, scheme, seed, at, chain, step, value)
                        self.assertEqual(found, known.plus_step(words, seed, at, chain, step, value))
                ends = [some_bytes(scheme.suite.size, k) for k in range(one_time.p)]
                self.assertEqual(self.pure(plus_ends_list, scheme, seed, at, ends), known.plus_ends(words, seed, at, ends))

    def test_lists_written_out(self):
        scheme = Stateless(suite_named("small-1"), 4, 3, 3, 2, 2)
        found = plus_step_list(scheme, [9], (1, 2, 3), 2, 14, [7])
        self.assertEqual(found, [9] + [0] * 63 + [1, 0, 0, 0, 0, 0, 0, 0, 2, 0, 0, 0, 0, 3, 0, 0, 0, 2, 0, 0, 0, 14, 7])
        found = plus_ends_list(scheme, [9], (1, 2, 3), [[4], [5], [6], [7]])
        self.assertEqual(found, [9] + [0] * 63 + [1, 0, 0, 0, 0, 0, 0, 0, 2, 1, 0, 0, 0, 3] + [0] * 8 + [4, 5, 6, 7])

    def test_what_is_refused(self):
        for _, scheme, seed, _ in samples():
            value = [7] * scheme.suite.size
            for at in bad_places(scheme):
                self.raises(OutOfRange, plus_step_list, scheme, seed, at, 0, 0, value)
                self.raises(OutOfRange, plus_ends_list, scheme, seed, at, [value] * scheme.one_time.p)
            for chain in (-1, scheme.one_time.p, scheme.one_time.p + 1, 10 ** 5000):
                self.raises(OutOfRange, plus_step_list, scheme, seed, (0, 0, 0), chain, 0, value)
            for step in (-1, scheme.one_time.top, scheme.one_time.top + 1, 10 ** 5000):
                self.raises(OutOfRange, plus_step_list, scheme, seed, (0, 0, 0), 0, step, value)


class Chains(Case):
    def test_runs_also_in_two_parts(self):
        for words, scheme, seed, _ in samples():
            top, value = scheme.one_time.top, some_bytes(scheme.suite.size, 3)
            for at in places(scheme):
                chain = scheme.one_time.p - 1
                whole = self.pure(plus_run, scheme, seed, at, chain, value, 0, top)
                self.assertEqual(whole, known.plus_run(words, seed, at, chain, value, 0, top))
                for cut in range(0, top + 1, top // 5 + 1):
                    first = plus_run(scheme, seed, at, chain, value, 0, cut)
                    self.assertEqual(plus_run(scheme, seed, at, chain, first, cut, top), whole)
                    self.assertEqual(self.pure(plus_run, scheme, seed, at, chain, value, cut, cut), value)

    def test_values_and_keys(self):
        for words, scheme, seed, secret in samples():
            top = scheme.one_time.top
            for at in places(scheme):
                for chain in sorted({0, scheme.one_time.p - 1}):
                    for step in sorted({0, 1, top // 2, top}):
                        found = self.pure(plus_value, scheme, seed, secret, at, chain, step)
                        self.assertEqual(found, known.plus_value(words, seed, secret, at, chain, step))
                self.assertEqual(self.pure(plus_key, scheme, seed, secret, at), known.plus_key(words, seed, secret, at))

    def test_what_is_refused(self):
        for _, scheme, seed, secret in samples():
            value, top, p = [7] * scheme.suite.size, scheme.one_time.top, scheme.one_time.p
            for at in bad_places(scheme):
                self.raises(OutOfRange, plus_run, scheme, seed, at, 0, value, 0, 0)
                self.raises(OutOfRange, plus_value, scheme, seed, secret, at, 0, 0)
                self.raises(OutOfRange, plus_key, scheme, seed, secret, at)
            for chain in (-1, p, p + 1, 10 ** 5000):
                self.raises(OutOfRange, plus_run, scheme, seed, (0, 0, 0), chain, value, 0, 0)
                self.raises(OutOfRange, plus_value, scheme, seed, secret, (0, 0, 0), chain, 0)
            for start, stop in ((-1, 0), (-1, -1), (1, 0), (top, top - 1), (0, top + 1), (top + 1, top + 1), (top + 1, top),
                                (0, 10 ** 5000), (10 ** 5000, 10 ** 5000)):
                self.raises(OutOfRange, plus_run, scheme, seed, (0, 0, 0), 0, value, start, stop)
            for step in (-1, top + 1, top + 2, 10 ** 5000):
                self.raises(OutOfRange, plus_value, scheme, seed, secret, (0, 0, 0), 0, step)
            self.assertEqual(plus_run(scheme, seed, (0, 0, 0), 0, value, top, top), value)


class Signatures(Case):
    def test_signatures_candidates_and_rows(self):
        for words, scheme, seed, secret in samples():
            n = scheme.suite.size
            for at in places(scheme):
                key = known.plus_key(words, seed, secret, at)
                for data in ([0] * n, [255] * n, some_bytes(n, 5)):
                    values = self.pure(plus_sign, scheme, seed, secret, at, data)
                    self.assertEqual(values, known.plus_sign(words, seed, secret, at, data))
                    self.assertEqual(self.pure(plus_candidate, scheme, seed, at, data, values), key)
                    rows = self.pure(plus_rows, scheme, seed, at, data, values)
                    self.assertEqual(rows, known.plus_rows(words, seed, at, data, values))
                    self.hang_together(scheme.suite, rows, key)
                    self.assertEqual({row[2] for row in rows}, {False})
                    count = sum(scheme.one_time.top - d for d in reference.digits(*words[:2], data))
                    self.assertEqual(len(rows), 1 + count)

    def test_changed_values(self):
        for words, scheme, seed, secret in samples():
            n, at = scheme.suite.size, places(scheme)[1]
            data = some_bytes(n, 5)
            values = plus_sign(scheme, seed, secret, at, data)
            wrong = [(data, values[:k] + [changed(values[k], n - 1)] + values[k + 1:]) for k in (0, len(values) - 1)]
            wrong.append((changed(data, 0), values))
            for signed, shown in wrong:
                found = plus_candidate(scheme, seed, at, signed, shown)
                self.assertEqual(found, known.plus_candidate(words, seed, at, signed, shown))
                if n > 2:
                    self.assertNotEqual(found, plus_key(scheme, seed, secret, at))
                rows = plus_rows(scheme, seed, at, signed, shown)
                self.assertEqual(rows, known.plus_rows(words, seed, at, signed, shown))
                self.hang_together(scheme.suite, rows, found)

    def test_data_out_of_bounds(self):
        for _, scheme, seed, secret in samples():
            n = scheme.suite.size
            values = plus_sign(scheme, seed, secret, (0, 0, 0), [1] * n)
            for data in ([], [1] * (n - 1), [1] * (n + 1)):
                self.raises(OutOfRange, plus_sign, scheme, seed, secret, (0, 0, 0), data)
                for shown in (values, [], None):
                    self.raises(OutOfRange, plus_candidate, scheme, seed, (0, 0, 0), data, shown)
                    self.raises(OutOfRange, plus_rows, scheme, seed, (0, 0, 0), data, shown)

    def test_places_come_first_and_forms_last(self):
        for _, scheme, seed, secret in samples():
            n = scheme.suite.size
            values = plus_sign(scheme, seed, secret, (0, 0, 0), [1] * n)
            for at in bad_places(scheme):
                self.raises(OutOfRange, plus_sign, scheme, seed, secret, at, [1] * n)
                for shown in (values, [], None):
                    self.raises(OutOfRange, plus_candidate, scheme, seed, at, [1] * n, shown)
                    self.raises(OutOfRange, plus_rows, scheme, seed, at, [1] * n, shown)
            for shown in ([], values[:-1], values + [values[0]], values[:-1] + [values[0] + [1]], [[]] + values[1:],
                          tuple(values), [tuple(value) for value in values], None, 5, values[:-1] + [[256] * n],
                          values[:-1] + [None]):
                self.raises(Malformed, plus_candidate, scheme, seed, (0, 0, 0), [1] * n, shown)
                self.raises(Malformed, plus_rows, scheme, seed, (0, 0, 0), [1] * n, shown)
