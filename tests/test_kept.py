"""Points 85 to 94: kept paths, their stacks, rounds and states."""

import functools

import reference
from helpers import Case, changed, leaves_of, never, plain
from sealgrove.errors import Malformed, OutOfRange, Refused, UsedUp
from sealgrove.kept import KeptPath, kept_of, shape
from sealgrove.suites import suite_named

SCHEDULES = ("even", "lowest")
HEIGHTS = range(6)
NAME = "small-2"
SUITE = suite_named(NAME)


class Tree:
    """A tree whose two functions remember what they are asked for."""

    def __init__(self, height, name=NAME):
        leaves = leaves_of(name, height)
        self.height = height
        self.levels = [[reference.tree_value(name, leaves, plain, z, i) for i in range(2 ** (height - z))]
                       for z in range(height + 1)]
        self.asked = []
        self.watch = None

    def leaf(self, place):
        self.called(("leaf", place))
        return self.levels[0][place]

    def text(self, level, index, left, right):
        self.called(("text", level, index))
        below = self.levels[level - 1]
        assert [left, right] == below[2 * index:2 * index + 2], "a text is made of other values"
        return plain(level, index, left, right)

    def called(self, what):
        self.asked.append(what)
        if self.watch is not None:
            self.watch()

    def taken(self):
        """What was asked for since the last time."""
        asked, self.asked = self.asked, []
        return asked

    def kept(self, place, schedule, suite=SUITE):
        return KeptPath(suite, self.height, self.leaf, self.text, place=place, schedule=schedule)

    def value(self, node):
        return self.levels[node[0]][node[1]]


@functools.lru_cache(maxsize=None)
def tree_of(height, name=NAME):
    return Tree(height, name)


def all_rounds(heights=HEIGHTS):
    """The rounds of all places of trees, which go on from one place to the next."""
    for schedule in SCHEDULES:
        for height in heights:
            rounds = reference.Rounds(height, schedule)
            yield rounds
            for _ in range(2 ** height - 1):
                rounds.next()
                yield rounds


def state_of(tree, rounds):
    """The state, by the words of point 93."""
    nodes = rounds.path + sum(rounds.stacks, [])
    head = [SCHEDULES.index(rounds.schedule), rounds.h, 2] + reference.num(rounds.place, 4)
    return head + sum([tree.value(node) for node in nodes], [])


def told(kept):
    """All that a kept path tells."""
    levels = range(kept.height)
    return (kept.place, kept.path(), [kept.stack(z) for z in levels], [kept.target(z) for z in levels], kept.kept(),
            kept.state(), kept.suite.name, kept.height, kept.schedule)


class Checks(Case):
    def stands(self, kept, tree, rounds):
        """The kept path holds what the rounds say, and asking changes nothing."""
        self.assertEqual((kept.place, kept.height, kept.schedule), (rounds.place, rounds.h, rounds.schedule))
        self.assertIs(kept.suite, SUITE)
        self.assertEqual(self.pure(kept.path), [tree.value(node) for node in rounds.path])
        for z in range(rounds.h):
            self.assertEqual(self.pure(kept.stack, z), [(node[0], tree.value(node)) for node in rounds.stacks[z]])
            self.assertEqual(kept.target(z), rounds.targets[z])
        self.assertEqual(kept.kept(), rounds.h + sum(map(len, rounds.stacks)))
        self.assertEqual(self.pure(kept.state), state_of(tree, rounds))


class Shapes(Checks):
    def test_shapes(self):
        for rounds in all_rounds(range(9)):
            found = self.pure(shape, rounds.h, rounds.place, rounds.schedule)
            self.assertEqual(found, [[node[0] for node in stack] for stack in rounds.stacks])

    def test_the_shapes_of_the_greatest_tree(self):
        last = 2 ** 25 - 1
        for schedule in SCHEDULES:
            self.assertEqual(shape(25, last, schedule), [[]] * 25)
            self.assertEqual(shape(25, last - 1, schedule), [[0]] + [[]] * 24)
            # In the round before a place every stack is ready whose node is taken there.
            self.assertEqual(shape(25, 2 ** 24 - 1, schedule), [[z] for z in range(25)])
            self.assertEqual(shape(25, 2 ** 23 - 1, schedule)[:24], [[z] for z in range(24)])
        self.assertEqual(shape(25, 0, "even"), [[0]] + [[0, 0]] * 24)
        # 49 units in one round: those of the stacks 0 to 3 are 1, 3, 7 and 15, and 23 are left for the next one.
        self.assertEqual(shape(25, 0, "lowest"), [[0], [1], [2], [3], [3, 2, 0]] + [[]] * 20)

    def test_the_order_of_the_errors(self):
        for height in (-1, 26, 27, 1000):
            for place, schedule in ((0, "even"), (-1, "odd")):
                self.raises(OutOfRange, shape, height, place, schedule)
                self.raises(OutOfRange, KeptPath, SUITE, height, never, never, place=place, schedule=schedule)
        for height in HEIGHTS:
            for place in (-1, 2 ** height, 2 ** height + 1, 2 ** 40):
                for schedule in ("even", "lowest", "odd"):
                    self.raises(OutOfRange, shape, height, place, schedule)
                    self.raises(OutOfRange, KeptPath, SUITE, height, never, never, place=place, schedule=schedule)
            for schedule in ("", "odd", "Even", "even ", "low", "evenlowest"):
                for place in (0, 2 ** height - 1):
                    self.raises(Malformed, shape, height, place, schedule)
                    self.raises(Malformed, KeptPath, SUITE, height, never, never, place=place, schedule=schedule)


class Rounds(Checks):
    def test_every_place_one_after_the_other(self):
        for schedule in SCHEDULES:
            for height in HEIGHTS:
                tree = Tree(height)
                rounds = reference.Rounds(height, schedule)
                kept = tree.kept(0, schedule)
                leaves, parents = rounds.leaves, rounds.parents
                self.stands(kept, tree, rounds)
                for _ in range(2 ** height - 1):
                    rounds.next()
                    tree.taken()
                    found = kept.advance()
                    self.assertIs(type(found), tuple)
                    self.assertEqual(found, (rounds.leaves, rounds.parents))
                    asked = tree.taken()
                    calls = [call[0] for call in asked]
                    self.assertEqual((calls.count("leaf"), calls.count("text")), found)
                    self.assertLessEqual(len(asked), 2 * height - 1)
                    self.stands(kept, tree, rounds)
                    self.assertEqual(tree.taken(), [])
                    leaves, parents = leaves + found[0], parents + found[1]
                if height > 0:
                    self.assertEqual(leaves, height * 2 ** height - 2 ** height + 1)
                    self.assertEqual(parents, (height - 3) * 2 ** height + height + 3)

    def test_paths_are_those_of_the_tree(self):
        for name in ("small-1", "sha-3", "sha-32"):
            tree = Tree(4, name)
            for schedule in SCHEDULES:
                kept = tree.kept(0, schedule, suite_named(name))
                for place in range(16):
                    known = reference.path(name, tree.levels[0], plain, place)
                    self.assertEqual(kept.path(), known)
                    if place < 15:
                        kept.advance()

    def test_how_many_values_are_kept(self):
        for schedule in SCHEDULES:
            for height in range(1, 7):
                most = [0]
                tree = Tree(height)
                kept = tree.kept(0, schedule)
                rounds = reference.Rounds(height, schedule)
                bound = height * (height + 1) // 2 if schedule == "even" else 2 * height - 1

                def look():
                    # A function is called behind the unit before, so that it sees what that unit has left.
                    most[0] = max(most[0], kept.kept() - height)

                tree.watch = look
                greatest = rounds.most
                for _ in range(2 ** height - 1):
                    kept.advance()
                    look()
                    rounds.next()
                    greatest = max(greatest, rounds.most)
                self.assertLessEqual(most[0], bound)
                self.assertLessEqual(greatest, bound)
                if schedule == "lowest":
                    self.assertLessEqual(most[0] + height, 3 * height - 1)

    def test_beginning_at_each_place(self):
        for rounds in all_rounds():
            tree = Tree(rounds.h)
            kept = tree.kept(rounds.place, rounds.schedule)
            asked = tree.taken()
            nodes = [("text", z, i) for z in range(1, rounds.h + 1) for i in range(2 ** (rounds.h - z))]
            self.assertEqual(sorted(asked), sorted([("leaf", q) for q in range(2 ** rounds.h)] + nodes))
            self.stands(kept, tree, rounds)

    def test_what_was_begun_goes_on(self):
        for schedule in SCHEDULES:
            for height in (3, 4):
                tree = tree_of(height)
                ends = tree.kept(2 ** height - 1, schedule)
                for place in range(2 ** height):
                    kept = tree.kept(place, schedule)
                    for later in range(place + 1, 2 ** height):
                        kept.advance()
                        self.assertEqual(kept.path(), reference.path(NAME, tree.levels[0], plain, later))
                    self.assertEqual(told(kept), told(ends))

    def test_the_defaults(self):
        tree = tree_of(3)
        kept = KeptPath(SUITE, 3, tree.leaf, tree.text)
        self.assertEqual(told(kept), told(tree.kept(0, "even")))

    def test_the_leaf_function_may_change_what_it_returned(self):
        shared = [0, 0]

        def leaf(place):
            shared[:] = [place, 7]
            return shared

        kept = KeptPath(SUITE, 2, leaf, plain)
        self.assertEqual(kept.path()[0], [1, 7])
        kept.go_to(2)
        self.assertEqual(kept.path()[0], [3, 7])
        self.assertEqual(kept.stack(0), [(0, [2, 7])])


class Steps(Checks):
    def test_going_to_a_place(self):
        for schedule in SCHEDULES:
            for height in HEIGHTS:
                tree = tree_of(height)
                for start in range(0, 2 ** height, 3):
                    for goal in range(start, 2 ** height, 2):
                        kept, other = tree.kept(start, schedule), tree.kept(start, schedule)
                        sums = [other.advance() for _ in range(goal - start)]
                        known = sum(pair[0] for pair in sums), sum(pair[1] for pair in sums)
                        self.assertEqual(kept.go_to(goal), known)
                        self.assertIs(type(known), tuple)
                        self.assertEqual(told(kept), told(other))

    def test_to_the_same_place(self):
        for rounds in all_rounds((0, 1, 3)):
            tree = tree_of(rounds.h)
            kept = tree.kept(rounds.place, rounds.schedule)
            before = told(kept)
            tree.taken()
            self.assertEqual(kept.go_to(rounds.place), (0, 0))
            self.assertEqual(tree.taken(), [])
            self.assertEqual(told(kept), before)

    def test_what_is_refused_changes_nothing(self):
        for rounds in all_rounds((0, 1, 3)):
            tree = tree_of(rounds.h)
            kept = tree.kept(rounds.place, rounds.schedule)
            before = told(kept)
            tree.taken()
            for place in (-1, 2 ** rounds.h, 2 ** rounds.h + 5, -2 ** 40):
                self.raises(OutOfRange, kept.go_to, place)
            for place in range(rounds.place):
                self.raises(Refused, kept.go_to, place)
            for level in (-1, rounds.h, rounds.h + 1, 26):
                self.raises(OutOfRange, kept.stack, level)
                self.raises(OutOfRange, kept.target, level)
            self.assertEqual(tree.taken(), [])
            self.assertEqual(told(kept), before)

    def test_beyond_the_last_place(self):
        for schedule in SCHEDULES:
            for height in HEIGHTS:
                tree = tree_of(height)
                kept = tree.kept(0, schedule)
                kept.go_to(2 ** height - 1)
                before = told(kept)
                tree.taken()
                for _ in range(2):
                    self.raises(UsedUp, kept.advance)
                self.assertEqual(tree.taken(), [])
                self.assertEqual(told(kept), before)

    def test_two_kept_paths_do_not_meet(self):
        tree = tree_of(3)
        one, other = tree.kept(0, "lowest"), tree.kept(0, "lowest")
        one.go_to(5)
        self.assertEqual(told(other), told(tree.kept(0, "lowest")))


class States(Checks):
    def test_there_and_back(self):
        for rounds in all_rounds():
            tree = tree_of(rounds.h)
            data = state_of(tree, rounds)
            tree.taken()
            kept = self.read(data)
            self.assertIs(type(kept), KeptPath)
            self.stands(kept, tree, rounds)
            # It was read without a call; now it goes on to the end as the one that was written.
            kept = kept_of(SUITE, tree.leaf, tree.text, data)
            self.assertEqual(tree.taken(), [])
            other = tree.kept(rounds.place, rounds.schedule)
            for _ in range(rounds.place, 2 ** rounds.h - 1):
                self.assertEqual(kept.advance(), other.advance())
                self.assertEqual(told(kept), told(other))
            self.raises(UsedUp, kept.advance)

    def read(self, data):
        """What is read with two functions that must not be called."""
        given = list(data)
        kept = kept_of(SUITE, never, never, given)
        self.assertEqual(given, data)
        given.clear()
        self.assertEqual(kept.state(), data)
        return kept

    def test_changed_heads(self):
        for rounds in all_rounds((0, 1, 2, 3)):
            data = state_of(tree_of(rounds.h), rounds)
            lengths = {
                (s, p): 7 + 2 * (rounds.h + sum(map(len, shape(rounds.h, p, SCHEDULES[s]))))
                for s in (0, 1) for p in range(2 ** rounds.h)
            }
            for at in range(7):
                for by in range(1, 256):
                    other = changed(data, at, by)
                    place = reference.number(other[3:7])
                    if other[1:3] == data[1:3] and lengths.get((other[0], place)) == len(data):
                        self.read(other)
                    else:
                        self.raises(Malformed, kept_of, SUITE, never, never, other)

    def test_heads_of_no_tree(self):
        for schedule in (0, 1):
            self.assertEqual(self.read([schedule, 0, 2, 0, 0, 0, 0]).height, 0)
            for head in ([2, 0, 2, 0, 0, 0, 0], [255, 0, 2, 0, 0, 0, 0], [schedule, 26, 2, 0, 0, 0, 0],
                         [schedule, 0, 1, 0, 0, 0, 0], [schedule, 0, 3, 0, 0, 0, 0], [schedule, 0, 2, 0, 0, 0, 1],
                         [schedule, 0, 2, 1, 0, 0, 0]):
                self.raises(Malformed, kept_of, SUITE, never, never, head)
                for count in range(80):
                    self.raises(Malformed, kept_of, SUITE, never, never, head + [1] * count)

    def test_lists_of_another_length(self):
        for rounds in all_rounds((0, 1, 3)):
            data = state_of(tree_of(rounds.h), rounds)
            for at in range(len(data)):
                self.raises(Malformed, kept_of, SUITE, never, never, data[:at])
            for more in (1, 2, 3, 4, 100):
                self.raises(Malformed, kept_of, SUITE, never, never, data + [0] * more)

    def test_a_state_of_another_suite(self):
        data = tree_of(2).kept(1, "even").state()
        for name in ("small-1", "small-3", "sha-1", "sha-32"):
            self.raises(Malformed, kept_of, suite_named(name), never, never, data)
        self.assertEqual(kept_of(suite_named("sha-2"), never, never, data).state(), data)

    def test_changed_values_go_on(self):
        """The values are not looked at, and are used as they are."""
        for schedule in SCHEDULES:
            tree = tree_of(3)
            for place in range(8):
                data = tree.kept(place, schedule).state()
                for at in range(7, len(data)):
                    kept = self.read(changed(data, at, 77))
                    nodes = kept.path() + [value for z in range(3) for _, value in kept.stack(z)]
                    self.assertEqual(sum(nodes, []), changed(data, at, 77)[7:])
                    kept = kept_of(SUITE, tree.leaf, plain, changed(data, at, 77))
                    other = tree.kept(place, schedule)
                    if at >= 7 + 6:
                        # A changed value of a stack comes into the path, or into a node of the path.
                        seen = False
                        while kept.place < 7:
                            self.assertEqual(kept.advance(), other.advance())
                            seen = seen or kept.path() != other.path()
                        self.assertTrue(seen)

    def test_states_of_the_greatest_tree(self):
        """Reading asks for the shape alone, and for no leaf of a tree that nobody could make."""
        for schedule in (0, 1):
            for place in (0, 1, 12345678, 2 ** 24 - 1, 2 ** 24, 2 ** 25 - 2, 2 ** 25 - 1):
                count = 25 + sum(map(len, shape(25, place, SCHEDULES[schedule])))
                data = [schedule, 25, 2] + reference.num(place, 4) + [9] * (2 * count)
                self.assertEqual(self.read(data).place, place)
                self.raises(Malformed, kept_of, SUITE, never, never, data[:-2])
                self.raises(Malformed, kept_of, SUITE, never, never, data + [9, 9])
