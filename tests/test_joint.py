"""Points 50 and 51: joint paths and joint climbs."""

from itertools import combinations

import reference
from helpers import Case, leaves_of, never, plain, some_bytes
from sealgrove.errors import Malformed, OutOfRange
from sealgrove.joint import joint_climb, joint_climb_rows, joint_path, joint_places
from sealgrove.suites import suite_named
from sealgrove.tree import climb_rows, parting


def some_places(height):
    """All sets of places of a small tree, and some of a larger one."""
    places = list(range(2 ** height))
    if height <= 3:
        return [list(found) for count in range(1, len(places) + 1) for found in combinations(places, count)]
    return [[0], [15], [7], [0, 15], [6, 7], [7, 8], [0, 1, 2, 3], [1, 5, 6, 11, 12], list(range(1, 16)), places]


class Places(Case):
    def test_nodes_of_joint_paths(self):
        for height in range(5):
            for places in some_places(height):
                self.assertEqual(self.pure(joint_places, height, places), reference.joint_places(height, places))

    def test_one_place_and_all_places(self):
        for height in range(8):
            for place in (0, 2 ** height // 2, 2 ** height - 1):
                self.assertEqual(joint_places(height, [place]), [(z, place // 2 ** z ^ 1) for z in range(height)])
            self.assertEqual(joint_places(height, list(range(2 ** height))), [])
        self.assertEqual(joint_places(25, [2 ** 25 - 1])[0], (0, 2 ** 25 - 2))

    def test_heights_and_places_that_are_none(self):
        for height in (-1, 26, 100):
            for places in ([0], [], [5, 5], [-1]):
                self.raises(OutOfRange, joint_places, height, places)
        for height in (0, 1, 3, 25):
            for wrong in (-1, 2 ** height, 2 ** height + 1):
                for places in ([wrong], [0, wrong], [wrong, 0], [0, 0, wrong], [wrong, wrong]):
                    self.raises(OutOfRange, joint_places, height, places)

    def test_places_that_are_not_ascending_and_different(self):
        for places in ([], [0, 0], [1, 0], [0, 2, 1], [0, 1, 1], [3, 3, 3], [0, 1, 2, 3, 0], [3, 2, 1, 0]):
            self.raises(Malformed, joint_places, 2, places)
        self.raises(Malformed, joint_places, 0, [])
        self.raises(Malformed, joint_places, 0, [0, 0])


class Paths(Case):
    def test_joint_paths(self):
        for name in ("small-2", "sha-3"):
            for height in range(4):
                leaves = leaves_of(name, height)
                for places in some_places(height):
                    known = [reference.tree_value(name, leaves, plain, z, i)
                             for z, i in reference.joint_places(height, places)]
                    self.assertEqual(self.pure(joint_path, suite_named(name), leaves, plain, places), known)

    def test_the_leaves_are_looked_at_first(self):
        suite = suite_named("small-2")
        for count in (0, 3, 5, 6):
            for places in ([0], [], [9], [0, 0]):
                self.raises(OutOfRange, joint_path, suite, [[1, 2]] * count, never, places)
        for places in ([0], [], [9], [0, 0], [-1]):
            self.raises(Malformed, joint_path, suite, [[1, 2], [1]], never, places)
        for places in ([2], [-1], [0, 2], [2, 2]):
            self.raises(OutOfRange, joint_path, suite, [[1, 2], [3, 4]], never, places)
        for places in ([], [0, 0], [1, 0]):
            self.raises(Malformed, joint_path, suite, [[1, 2], [3, 4]], never, places)


def known_rows(name, height, items, path):
    """The joint climb of point 51: its top, and its rows."""
    known, rest, levels = dict(items), list(path), []
    for z in range(height):
        above, rows = {}, []
        for i in sorted({i // 2 for i in known}):
            both = {2 * i: known.get(2 * i), 2 * i + 1: known.get(2 * i + 1)}
            for j in both:
                if both[j] is None:
                    both[j] = rest.pop(0)
            left, right = both[2 * i], both[2 * i + 1]
            text = plain(z + 1, i, left, right)
            rows.append(reference.row(text, [left, right]))
            above[i] = reference.digest(name, text)
        known = above
        levels.insert(0, rows)
    return known[0], [row for rows in levels for row in rows]


class Climbs(Case):
    def test_joint_climbs_reach_the_root(self):
        for name in ("small-2", "sha-3"):
            suite = suite_named(name)
            for height in range(5):
                leaves = leaves_of(name, height)
                root = reference.root(name, leaves, plain)
                for places in some_places(height):
                    items = [(place, leaves[place]) for place in places]
                    path = joint_path(suite, leaves, plain, places)
                    top, rows = known_rows(name, height, items, path)
                    self.assertEqual(top, root)
                    self.assertEqual(self.pure(joint_climb, suite, plain, height, items, path), root)
                    self.assertEqual(self.pure(joint_climb_rows, suite, plain, height, items, path), rows)

    def test_climbs_of_any_values(self):
        suite = suite_named("small-2")
        for height in range(5):
            for places in some_places(height):
                items = [(place, some_bytes(2, place)) for place in places]
                path = [some_bytes(2, 50 + k) for k in range(len(joint_places(height, places)))]
                top, rows = known_rows("small-2", height, items, path)
                self.assertEqual(joint_climb(suite, plain, height, items, path), top)
                self.assertEqual(joint_climb_rows(suite, plain, height, items, path), rows)

    def test_one_place_climbs_as_alone(self):
        suite = suite_named("small-2")
        path = [some_bytes(2, k) for k in range(4)]
        for place in range(16):
            rows = joint_climb_rows(suite, plain, 4, [(place, [1, 2])], path)
            self.assertEqual(rows, climb_rows(suite, plain, place, [1, 2], path))

    def test_height_0(self):
        value = [1, 2]
        self.assertEqual(self.pure(joint_climb, suite_named("small-2"), never, 0, [(0, value)], []), [1, 2])
        self.assertEqual(self.pure(joint_climb_rows, suite_named("small-2"), never, 0, [(0, value)], []), [])

    def refused(self, error, height, items, path):
        for function in (joint_climb, joint_climb_rows):
            self.raises(error, function, suite_named("small-2"), never, height, items, path)

    def test_heights_and_places_that_are_none(self):
        good = [1, 2]
        for height in (-1, 26):
            for items in ([(0, good)], [], [(0, [1])], [(0, good), (0, good)]):
                self.refused(OutOfRange, height, items, [])
        for wrong in (-1, 4, 5, 2 ** 30):
            for items in ([(wrong, good)], [(0, good), (wrong, good)], [(0, [1]), (0, good), (wrong, good)],
                          [(wrong, good), (0, good)]):
                self.refused(OutOfRange, 2, items, [good])

    def test_malformed_pairs_and_paths(self):
        good = [1, 2]
        self.refused(Malformed, 2, [], [])
        self.refused(Malformed, 2, [], [good])
        for places in ([0, 0], [1, 0], [0, 2, 1], [1, 2, 2]):
            for count in range(4):
                self.refused(Malformed, 2, [(place, good) for place in places], [good] * count)
        for height in range(4):
            for places in some_places(height):
                need = len(joint_places(height, places))
                items = [(place, good) for place in places]
                for count in range(need + 3):
                    if count != need:
                        self.refused(Malformed, height, items, [good] * count)

    def test_values_of_a_wrong_length(self):
        good = [1, 2]
        for wrong in ([], [1], [1, 2, 3], [1, 256], None):
            self.refused(Malformed, 0, [(0, wrong)], [])
            for items in ([(0, wrong), (3, good)], [(0, good), (3, wrong)]):
                self.refused(Malformed, 2, items, [good, good])
            for path in ([wrong, good], [good, wrong]):
                self.refused(Malformed, 2, [(0, good), (3, good)], path)

    def test_two_joint_climbs_with_one_top_part(self):
        suite = suite_named("small-1")
        items, path = [(0, [5]), (3, [6])], [[7], [8]]
        top = joint_climb(suite, plain, 2, items, path)
        rows = joint_climb_rows(suite, plain, 2, items, path)
        parted = 0
        for a in range(256):
            for b in range(8):
                others, way = [(0, [5]), (3, [a])], [[7 + b], [8]]
                if joint_climb(suite, plain, 2, others, way) == top and (others, way) != (items, path):
                    one, two = parting(suite, rows, joint_climb_rows(suite, plain, 2, others, way))
                    self.assertNotEqual(one, two)
                    self.assertEqual(suite.digest(list(one)), suite.digest(list(two)))
                    parted += 1
        self.assertGreater(parted, 0)
