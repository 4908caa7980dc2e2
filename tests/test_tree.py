"""Points 45 to 49: trees, paths, climbs, partings, growing."""

import reference
from helpers import Case, changed, frozen, leaves_of, never, plain, some_bytes
from sealgrove.errors import Malformed, OutOfRange
from sealgrove.suites import suite_named
from sealgrove.tree import climb, climb_rows, grown, node_of, parting, path_of, root_of, tree_levels

NAMES = ("small-1", "small-2", "sha-3", "sha-32")


class Asked:
    """A leaf function that remembers what it was asked for."""

    def __init__(self, leaves, first=0):
        self.leaves, self.first, self.places = leaves, first, []

    def __call__(self, place):
        self.places.append(place)
        return self.leaves[place - self.first]


class Levels(Case):
    def test_levels_roots_and_paths(self):
        for name in NAMES:
            suite = suite_named(name)
            for height in range(6):
                leaves = leaves_of(name, height)
                levels = self.pure(tree_levels, suite, leaves, plain)
                known = [[reference.tree_value(name, leaves, plain, z, i) for i in range(2 ** (height - z))]
                         for z in range(height + 1)]
                self.assertEqual(levels, known)
                self.assertEqual(self.pure(root_of, suite, leaves, plain), known[height][0])
                for place in range(2 ** height):
                    path = self.pure(path_of, suite, leaves, plain, place)
                    self.assertEqual(path, [known[z][place // 2 ** z ^ 1] for z in range(height)])

    def test_text_functions_are_asked_by_position_for_each_node(self):
        asked = []

        def text(*rest):
            asked.append(frozen(rest))
            return plain(*rest)

        levels = tree_levels(suite_named("small-2"), leaves_of("small-2", 3), text)
        known = [frozen((z, i, levels[z - 1][2 * i], levels[z - 1][2 * i + 1]))
                 for z in range(1, 4) for i in range(2 ** (3 - z))]
        self.assertEqual(sorted(asked), sorted(known))

    def test_numbers_of_leaves_that_are_none(self):
        suite = suite_named("small-2")
        for count in (0, 3, 5, 6, 7, 9, 12, 31, 33, 1000):
            leaves = [[1, 2]] * count
            self.raises(OutOfRange, tree_levels, suite, leaves, never)
            self.raises(OutOfRange, root_of, suite, leaves, never)
            self.raises(OutOfRange, path_of, suite, leaves, never, 0)
            self.raises(OutOfRange, tree_levels, suite, [[1]] * count, never)

    def test_the_greatest_number_of_leaves(self):
        class Many(list):
            """A list that says to be longer than it is: so many values have no room here."""

            def __len__(self):
                return self.count

        suite = suite_named("small-2")
        for count, error in ((2 ** 25, Malformed), (2 ** 25 + 1, OutOfRange), (2 ** 26, OutOfRange)):
            leaves = Many([[1]])
            leaves.count = count
            for function in (tree_levels, root_of):
                with self.assertRaises(error):
                    function(suite, leaves, never)

    def test_values_of_a_wrong_length(self):
        suite = suite_named("small-2")
        for value in ([], [1], [1, 2, 3], [1, 256], [1, -1], [True, 1], (1, 2), None):
            for at in range(4):
                leaves = [[1, 2]] * 4
                leaves[at] = value
                self.raises(Malformed, tree_levels, suite, leaves, never)
                self.raises(Malformed, root_of, suite, leaves, never)
                for place in (-1, 0, 3, 4):
                    self.raises(Malformed, path_of, suite, leaves, never, place)
            self.raises(Malformed, root_of, suite, [value], never)

    def test_places_that_are_none(self):
        suite = suite_named("small-2")
        for height in range(4):
            for place in (-1, 2 ** height, 2 ** height + 1, 2 ** 40):
                self.raises(OutOfRange, path_of, suite, [[1, 2]] * 2 ** height, never, place)


class Nodes(Case):
    def test_nodes(self):
        for name in ("small-2", "sha-3"):
            leaves = leaves_of(name, 5)
            for level in range(6):
                for index in range(2 ** (5 - level)):
                    asked = Asked(leaves)
                    found = node_of(suite_named(name), asked, plain, level, index)
                    self.assertEqual(found, reference.tree_value(name, leaves, plain, level, index))
                    self.assertEqual(asked.places, list(range(index << level, (index + 1) << level)))

    def test_a_node_far_to_the_right(self):
        leaves = leaves_of("small-2", 2)
        asked = Asked(leaves, 4 * 10 ** 6)
        known = reference.tree_value("small-2", {4 * 10 ** 6 + k: leaf for k, leaf in enumerate(leaves)}, plain, 2, 10 ** 6)
        self.assertEqual(node_of(suite_named("small-2"), asked, plain, 2, 10 ** 6), known)

    def test_a_leaf_is_copied(self):
        leaves = [[1, 2], [3, 4]]
        found = node_of(suite_named("small-2"), lambda place: leaves[place], plain, 0, 1)
        self.assertEqual(found, [3, 4])
        self.assertIsNot(found, leaves[1])

    def test_levels_and_indexes_that_are_none(self):
        suite = suite_named("small-2")
        for level in (-1, 26, 27, 1000):
            for index in (-1, 0, 1):
                self.raises(OutOfRange, node_of, suite, never, never, level, index)
        for level in (0, 1, 25):
            for index in (-1, -2, -2 ** 30):
                self.raises(OutOfRange, node_of, suite, never, never, level, index)


class Climbs(Case):
    def test_climbs_reach_the_root(self):
        for name in NAMES:
            suite = suite_named(name)
            for height in range(5):
                leaves = leaves_of(name, height)
                root = reference.root(name, leaves, plain)
                for place in range(2 ** height):
                    path = reference.path(name, leaves, plain, place)
                    self.assertEqual(self.pure(climb, suite, plain, place, leaves[place], path), root)

    def test_climbs_of_any_values(self):
        suite = suite_named("small-2")
        path = [some_bytes(2, k) for k in range(25)]
        for place in (0, 1, 2 ** 25 - 1, 2 ** 24, 0b1010101010101010101010101):
            value = [5, 6]
            rows = []
            for z, s in enumerate(path):
                i = place // 2 ** z
                left, right = (value, s) if i % 2 == 0 else (s, value)
                text = plain(z + 1, i // 2, left, right)
                rows.insert(0, reference.row(text, [left, right]))
                value = reference.digest("small-2", text)
            self.assertEqual(self.pure(climb, suite, plain, place, [5, 6], path), value)
            self.assertEqual(self.pure(climb_rows, suite, plain, place, [5, 6], path), rows)

    def test_an_empty_path(self):
        value = [5, 6]
        self.assertEqual(self.pure(climb, suite_named("small-2"), never, 0, value, []), [5, 6])
        self.assertEqual(self.pure(climb_rows, suite_named("small-2"), never, 0, value, []), [])

    def test_rows_are_tuples_from_the_top_down(self):
        rows = climb_rows(suite_named("small-2"), plain, 1, [1, 2], [[3, 4], [5, 6]])
        value = reference.digest("small-2", [1, 0, 77, 3, 4, 1, 2])
        self.assertEqual(rows, [
            (tuple([2, 0, 77] + value + [5, 6]), (tuple(value), (5, 6)), False),
            ((1, 0, 77, 3, 4, 1, 2), ((3, 4), (1, 2)), False)])
        self.assertEqual([type(part) for part in rows[0]], [tuple, tuple, bool])

    def test_places_and_paths_that_are_none(self):
        suite = suite_named("small-2")
        for function in (climb, climb_rows):
            for count in (0, 1, 3, 25):
                for place in (-1, 2 ** count, 2 ** count + 5, 2 ** 40):
                    self.raises(OutOfRange, function, suite, never, place, [1, 2], [[1, 2]] * count)
            for count in (26, 27, 100):
                for place in (-1, 0, 5, 2 ** 25):
                    self.raises(OutOfRange, function, suite, never, place, [1, 2], [[1, 2]] * count)
                    self.raises(OutOfRange, function, suite, never, place, [1], [[1]] * count)

    def test_values_of_a_wrong_length(self):
        suite = suite_named("small-2")
        for function in (climb, climb_rows):
            for wrong in ([], [1], [1, 2, 3], [1, 256], None):
                self.raises(Malformed, function, suite, never, 0, wrong, [])
                self.raises(Malformed, function, suite, never, 2, wrong, [[1, 2]] * 2)
                for at in range(3):
                    path = [[1, 2]] * 3
                    path[at] = wrong
                    self.raises(Malformed, function, suite, never, 7, [1, 2], path)
                    self.raises(OutOfRange, function, suite, never, 8, wrong, path)
                    self.raises(OutOfRange, function, suite, never, -1, wrong, path)


class Partings(Case):
    def rows(self, *lists):
        return [(tuple(data), (), False) for data in lists]

    def test_the_first_difference_counts(self):
        suite = suite_named("small-2")
        one, other = [0, 20], [255, 6]
        self.assertEqual(reference.digest("small-2", one), reference.digest("small-2", other))
        same, unlike = [1, 1], [1, 2]
        self.assertNotEqual(reference.digest("small-2", same), reference.digest("small-2", unlike))
        for rows, others, known in (
                ((one,), (other,), ((0, 20), (255, 6))),
                ((other,), (one,), ((255, 6), (0, 20))),
                ((one,), (one,), None),
                ((same,), (unlike,), None),
                ((), (), None),
                ((same, one), (same, other), ((0, 20), (255, 6))),
                ((one, same), (other, unlike), ((0, 20), (255, 6))),
                ((unlike, one), (same, other), None),
                ((same, unlike, one), (same, same, other), None)):
            found = self.pure(parting, suite, self.rows(*rows), self.rows(*others))
            self.assertEqual(found, known)
        self.assertIs(type(parting(suite, self.rows(one), self.rows(other))), tuple)

    def test_partings_of_published_digests(self):
        suite = suite_named("sha-1")
        first = {}
        for k in range(256):
            one = first.setdefault(reference.digest("sha-1", [k])[0], k)
            if one != k:
                break
        self.assertEqual(parting(suite, self.rows([one]), self.rows([k])), ((one,), (k,)))
        self.assertIsNone(parting(suite_named("sha-32"), self.rows([one]), self.rows([k])))

    def test_only_the_lists_are_compared(self):
        suite = suite_named("small-2")
        self.assertIsNone(parting(suite, [((1,), ((1,),), False)], [((1,), (), True)]))

    def test_lists_of_different_lengths(self):
        suite = suite_named("small-2")
        for rows, others in (([], [[1]]), ([[1]], []), ([[1]], [[1], [2]]), ([[0, 20], [1]], [[255, 6]])):
            self.raises(Malformed, parting, suite, self.rows(*rows), self.rows(*others))

    def test_two_climbs_with_one_top_part(self):
        """The last sentence of point 48."""
        suite = suite_named("small-1")
        value, path = [5], [[6], [7], [8]]
        top = climb(suite, plain, 3, value, path)
        rows = climb_rows(suite, plain, 3, value, path)
        parted = 0
        for a in range(256):
            for b in range(8):
                other, way = [a], [[6], [7 + b], [8]]
                if climb(suite, plain, 3, other, way) == top and (other, way) != (value, path):
                    one, two = parting(suite, rows, climb_rows(suite, plain, 3, other, way))
                    self.assertNotEqual(one, two)
                    self.assertEqual(suite.digest(list(one)), suite.digest(list(two)))
                    self.assertIn(one, [row[0] for row in rows])
                    parted += 1
        self.assertGreater(parted, 0)
        self.assertIsNone(parting(suite, rows, rows))


class Growing(Case):
    def test_roots_paths_and_the_most(self):
        for name in ("small-2", "sha-3"):
            suite = suite_named(name)
            for height in range(6):
                leaves = leaves_of(name, height)
                root = reference.root(name, leaves, plain)
                for place in range(2 ** height):
                    asked = Asked(leaves)
                    found = self.pure(grown, suite, height, asked, plain, place)
                    self.assertEqual(found, (root, reference.path(name, leaves, plain, place), height + 1))
                    self.assertIs(type(found), tuple)
                    # pure asks for everything twice.
                    self.assertEqual(asked.places, list(range(2 ** height)) * 2)

    def test_what_is_returned_is_not_what_the_leaf_function_keeps(self):
        leaves = leaves_of("small-2", 1)
        before = frozen(leaves)
        root, path, _ = grown(suite_named("small-2"), 1, lambda place: leaves[place], plain, 0)
        path[0].append(9)
        self.assertEqual(frozen(leaves), before)
        root, path, _ = grown(suite_named("small-2"), 0, lambda place: leaves[place], plain, 0)
        root.append(9)
        self.assertEqual(frozen(leaves), before)

    def test_a_leaf_function_may_use_one_list_again(self):
        kept = [0, 0]

        def leaf(place):
            kept[0] = place
            return kept

        leaves = [[place, 0] for place in range(8)]
        found = grown(suite_named("small-2"), 3, leaf, plain, 4)
        self.assertEqual(found[:2], (reference.root("small-2", leaves, plain), reference.path("small-2", leaves, plain, 4)))
        self.assertEqual(node_of(suite_named("small-2"), leaf, plain, 3, 0), reference.root("small-2", leaves, plain))

    def test_heights_and_places_that_are_none(self):
        suite = suite_named("small-2")
        for height in (-1, 26, 100):
            for place in (-1, 0, 1):
                self.raises(OutOfRange, grown, suite, height, never, never, place)
        for height in (0, 1, 3, 25):
            for place in (-1, 2 ** height, 2 ** height + 1):
                self.raises(OutOfRange, grown, suite, height, never, never, place)


class Changes(Case):
    def test_another_value_or_path_is_another_top(self):
        """With long digests, whatever is changed is seen."""
        suite = suite_named("sha-32")
        leaves = leaves_of("sha-32", 3)
        root = reference.root("sha-32", leaves, plain)
        path = path_of(suite, leaves, plain, 5)
        self.assertNotEqual(climb(suite, plain, 4, leaves[5], path), root)
        self.assertNotEqual(climb(suite, plain, 5, changed(leaves[5], 0), path), root)
        for at in range(3):
            other = path[:at] + [changed(path[at], 31)] + path[at + 1:]
            self.assertNotEqual(climb(suite, plain, 5, leaves[5], other), root)
