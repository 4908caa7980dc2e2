"""Points 191 and 192: known rows, and clashes."""

import random

import reference
from helpers import Case, frozen, some_bytes
from sealgrove.papers import clash_of, judge_clash, known_rows
from sealgrove.suites import suite_named

NAMES = ("small-1", "small-2", "sha-1", "sha-32", "small-32")


def some_rows(name, source, count, bound=256):
    size = reference.size(name)
    rows = []
    for _ in range(count):
        data = tuple(source.randrange(bound) for _ in range(source.randrange(4)))
        items = tuple(tuple(source.randrange(256) for _ in range(size)) for _ in range(source.randrange(3)))
        rows.append((data, items, source.randrange(2) == 0))
    return rows


class Known(Case):
    def test_known_rows(self):
        source = random.Random(191)
        for name in NAMES:
            for count in (0, 1, 5, 30):
                rows = some_rows(name, source, count, 3)
                found = self.pure(known_rows, suite_named(name), rows)
                self.assertIs(type(found), tuple)
                lists, digests = found
                self.assertEqual(lists, {row[0]: tuple(reference.digest(name, list(row[0]))) for row in rows})
                self.assertEqual(digests, {item: True for row in rows for item in row[1]})


class Clashes(Case):
    def test_clashes_of_rows(self):
        source = random.Random(192)
        found = {True: 0, False: 0}
        for name in NAMES:
            suite = suite_named(name)
            for _ in range(60):
                rows = some_rows(name, source, source.randrange(25))
                lists = {row[0] for row in rows}
                digests = {tuple(reference.digest(name, list(data))) for data in lists}
                clash = self.pure(clash_of, suite, rows)
                found[clash is None] += 1
                if len(digests) == len(lists):
                    self.assertIsNone(clash)
                else:
                    word, one, other = clash
                    self.assertEqual(word, "clash")
                    self.assertNotEqual(one, other)
                    self.assertTrue(one in lists and other in lists)
                    self.assertEqual(reference.digest(name, list(one)), reference.digest(name, list(other)))
                    self.assertIs(judge_clash(suite, clash), True)
        self.assertTrue(found[True] > 20 and found[False] > 20)

    def test_one_list_that_comes_twice_is_no_clash(self):
        suite = suite_named("small-1")
        rows = [((1, 2), (), False), ((1, 2), ((7,),), True)]
        self.assertIsNone(clash_of(suite, rows))
        self.assertIsNone(clash_of(suite, []))

    def test_judging(self):
        for name in ("small-1", "sha-1", "small-2"):
            suite = suite_named(name)
            one = (5, 6)
            others = [(a, b) for a in range(256) for b in range(256)]
            same = [other for other in others if other != one
                    and reference.digest(name, list(other)) == reference.digest(name, list(one))]
            other = same[0] if same else None
            unlike = next(found for found in others if reference.digest(name, list(found)) != reference.digest(name, [5, 6]))
            if other is not None:
                self.assertIs(self.pure(judge_clash, suite, ("clash", one, other)), True)
                self.assertIs(judge_clash(suite, ("clash", other, one)), True)
                for paper in (("clash", list(one), other), ("clash", one, list(other)), ["clash", one, other],
                              ("Clash", one, other), ("opened", one, other), ("clash", one, other, other),
                              ("clash", one), (one, other), (one, "clash", other), (b"clash", one, other)):
                    self.assertIs(judge_clash(suite, paper), False)
            self.assertIs(judge_clash(suite, ("clash", one, one)), False)
            self.assertIs(judge_clash(suite, ("clash", one, unlike)), False)

    def test_the_smallest_suite_has_short_clashes(self):
        suite = suite_named("small-1")
        found = [(k,) for k in range(256) if suite.digest([k]) == suite.digest([])]
        for one in found:
            self.assertIs(judge_clash(suite, ("clash", (), one)), True)

    def test_values_of_every_kind(self):
        suite = suite_named("small-1")
        same = next((a, b) for a in range(256) for b in range(256) if suite.digest([a, b]) == suite.digest([1]))
        self.assertIs(judge_clash(suite, ("clash", same, (1,))), True)
        values = (None, True, 0, 1.5, "", "clash", b"clash", [], {}, (), ("clash",), [("clash", same, (1,))], object(),
                  ("clash", same, (True,)), ("clash", same, (1.0,)), ("clash", same, (None,)), ("clash", same, (256,)),
                  ("clash", same, (-1,)), ("clash", same, 1), ("clash", same, None), ("clash", None, same),
                  ("clash", "ab", "cd"), ("clash", ((1,),), same), (["clash"], same, (1,)), ({}, same, (1,)),
                  ("clash", {}, {}), ("clash", frozen([1]), same), ("clash", bytes([1]), same), 10 ** 5000)
        for value in values:
            self.assertIs(judge_clash(suite, value), False)

    def test_long_lists(self):
        suite = suite_named("sha-32")
        one, other = tuple(some_bytes(65600)), tuple(some_bytes(65600, 1))
        self.assertIs(judge_clash(suite, ("clash", one, other)), False)
