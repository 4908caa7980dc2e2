"""Point 95: kept keys."""

import reference
from helpers import Case, changed, kind_of, some_bytes
from sealgrove.errors import Malformed, OutOfRange, Refused, UsedUp
from sealgrove.kept import KeptPath
from sealgrove.keptkeys import KeptKey, kept_key_of
from sealgrove.lms import accepts_tree, leaf_value, node_text, sign_tree, tree_root
from sealgrove.lmsforms import lms_rows, verify_tree, write_public, write_tree

I = list(range(50, 66))
SCHEDULES = ("even", "lowest")
KINDS = (("small-1", 8, 0), ("small-1", 4, 3), ("small-2", 2, 2), ("sha-3", 4, 1))


def samples():
    for name, width, height in KINDS:
        kind = kind_of(name, width, height)
        seed = some_bytes(kind.suite.size, 3)
        for schedule in SCHEDULES:
            yield (name, width, height), kind, seed, schedule


def told(key):
    way = key.way
    return way.place, way.height, way.schedule, way.suite.name, key.state(), key.root()


class Keys(Case):
    def test_each_signature_is_that_of_the_tree_key(self):
        for words, kind, seed, schedule in samples():
            root = tree_root(kind, I, seed)
            known = [reference.lms_sign(*words, I, seed, q, [q, 7]) for q in range(kind.places)]
            for start in range(kind.places):
                key = KeptKey(kind, I, seed, place=start, schedule=schedule)
                self.assertIs(type(key.way), KeptPath)
                for q in range(start, kind.places):
                    if q > start:
                        key.way.advance()
                    self.assertEqual(key.way.place, q)
                    self.assertEqual(self.pure(key.sign, [q, 7]), known[q])
                    self.assertTrue(accepts_tree(kind, I, root, [q, 7], key.sign([q, 7])))
                    self.assertEqual(key.way.place, q)
                    self.assertEqual(self.pure(key.root), root)
                    way = KeptPath(kind.suite, kind.height, lambda leaf: leaf_value(kind, I, seed, leaf),
                                   node_text(kind, I), place=q, schedule=schedule)
                    self.assertEqual(self.pure(key.state), way.state())
                self.raises(UsedUp, key.way.advance)

    def test_signing_at_places(self):
        for words, kind, seed, schedule in samples():
            for start in range(kind.places):
                for goal in range(start, kind.places):
                    key = KeptKey(kind, I, seed, place=start, schedule=schedule)
                    found = key.sign_at(goal, [1])
                    self.assertEqual(found, reference.lms_sign(*words, I, seed, goal, [1]))
                    self.assertEqual(key.way.place, goal)
                    self.assertEqual(key.sign_at(goal, [2]), reference.lms_sign(*words, I, seed, goal, [2]))
                    self.assertEqual(told(key), told(KeptKey(kind, I, seed, place=goal, schedule=schedule)))

    def test_the_defaults(self):
        kind = kind_of("small-1", 8, 2)
        self.assertEqual(told(KeptKey(kind, I, [5])), told(KeptKey(kind, I, [5], place=0, schedule="even")))

    def test_identifier_and_seed_are_copied(self):
        kind = kind_of("small-1", 8, 2)
        identifier, seed = list(I), [5]
        for key in (KeptKey(kind, identifier, seed), kept_key_of(kind, identifier, seed, KeptKey(kind, I, [5]).state())):
            identifier[0], seed[0] = 0, 0
            for q in range(4):
                self.assertEqual(key.sign_at(q, [1]), sign_tree(kind, I, [5], q, [1]))
            identifier[0], seed[0] = I[0], 5


class Refusals(Case):
    def test_what_no_kept_key_is_made_of(self):
        kind = kind_of("small-2", 8, 1)
        state = KeptKey(kind, I, [5, 6]).state()
        for identifier in ([], [1] * 15, [1] * 17):
            self.raises(OutOfRange, KeptKey, kind, identifier, [5, 6])
            self.raises(OutOfRange, KeptKey, kind, identifier, [5, 6], schedule="odd")
            self.raises(OutOfRange, kept_key_of, kind, identifier, [5, 6], state)
            self.raises(OutOfRange, kept_key_of, kind, identifier, [5, 6], [])
        for seed in ([], [5], [5] * 3):
            self.raises(OutOfRange, KeptKey, kind, I, seed)
            self.raises(OutOfRange, KeptKey, kind, I, seed, schedule="odd")
            self.raises(OutOfRange, kept_key_of, kind, I, seed, state)
            self.raises(OutOfRange, kept_key_of, kind, I, seed, [])
        for place in (-1, 2, 2 ** 40):
            self.raises(OutOfRange, KeptKey, kind, I, [5, 6], place=place)
            self.raises(OutOfRange, KeptKey, kind, I, [5, 6], place=place, schedule="odd")
        for schedule in ("", "odd", "Lowest"):
            self.raises(Malformed, KeptKey, kind, I, [5, 6], schedule=schedule)

    def test_places_behind_and_none(self):
        for _, kind, seed, schedule in samples():
            key = KeptKey(kind, I, seed, place=kind.places - 1, schedule=schedule)
            before = told(key)
            for place in range(kind.places - 1):
                self.raises(Refused, key.sign_at, place, [1])
                # What go_to raises is named before the length of the message.
                self.raises(Refused, key.sign_at, place, [1] * 65537)
            for place in (-1, kind.places, 2 ** 40):
                self.raises(OutOfRange, key.sign_at, place, [1])
            self.assertEqual(told(key), before)

    def test_long_messages(self):
        kind = kind_of("small-1", 8, 2)
        key = KeptKey(kind, I, [5], place=1)
        message = [3] * 65536
        self.assertEqual(key.sign(message), sign_tree(kind, I, [5], 1, message))
        before = told(key)
        self.raises(OutOfRange, key.sign, message + [3])
        for place in (1, 2, 3):
            self.raises(OutOfRange, key.sign_at, place, message + [3])
        self.assertEqual(told(key), before)
        self.assertEqual(key.sign_at(3, message), sign_tree(kind, I, [5], 3, message))


class States(Case):
    def test_there_and_back(self):
        for words, kind, seed, schedule in samples():
            for start in range(kind.places):
                other = KeptKey(kind, I, seed, place=start, schedule=schedule)
                data = other.state()
                key = self.pure_key(kind, seed, data)
                self.assertIs(type(key), KeptKey)
                self.assertEqual(told(key), told(other))
                for q in range(start, kind.places):
                    self.assertEqual(key.sign_at(q, [1]), reference.lms_sign(*words, I, seed, q, [1]))
                    other.way.go_to(q)
                    self.assertEqual(told(key), told(other))

    def pure_key(self, kind, seed, data):
        given = list(data)
        key = kept_key_of(kind, I, seed, given)
        self.assertEqual(given, data)
        given.clear()
        self.assertEqual(key.state(), data)
        return key

    def test_what_cannot_be_read(self):
        for _, kind, seed, schedule in samples():
            data = KeptKey(kind, I, seed, schedule=schedule).state()
            for at in range(len(data)):
                self.raises(Malformed, kept_key_of, kind, I, seed, data[:at])
            self.raises(Malformed, kept_key_of, kind, I, seed, data + [0])
            for at, by in ((0, 2), (1, 30), (2, 1), (3, 1), (6, 255)):
                self.raises(Malformed, kept_key_of, kind, I, seed, changed(data, at, by))

    def test_another_height(self):
        for one in range(4):
            for other in range(4):
                data = KeptKey(kind_of("small-1", 8, one), I, [5]).state()
                if one != other:
                    self.raises(Malformed, kept_key_of, kind_of("small-1", 8, other), I, [5], data)

    def test_reading_makes_no_tree(self):
        """A key of the greatest height is read, and signs."""
        kind = kind_of("small-1", 8, 25)
        last = 2 ** 25 - 1
        data = [0, 25, 1] + reference.num(last, 4) + list(range(25))
        key = kept_key_of(kind, I, [5], data)
        self.assertEqual(key.sign([1]), sign_tree(kind, I, [5], last, [1], path=[[k] for k in range(25)]))
        self.assertEqual(key.state(), data)

    def test_changed_values(self):
        """A signature is still that of the tree key, or not accepted, or its rows have two lists with one digest."""
        kind = kind_of("small-1", 4, 3)
        public = write_public(kind, I, tree_root(kind, I, [5]))
        suite, ends = kind.suite, {"equal": 0, "not accepted": 0, "clash": 0}
        for schedule in SCHEDULES:
            for start in range(8):
                data = KeptKey(kind, I, [5], place=start, schedule=schedule).state()
                for at in range(7, len(data)):
                    for by in range(1, 256, 9):
                        key = kept_key_of(kind, I, [5], changed(data, at, by))
                        q = min(7, start + by % 4)
                        ends[self.end(kind, suite, public, q, key.sign_at(q, [9]))] += 1
        self.assertGreater(min(ends.values()), 10, ends)

    def end(self, kind, suite, public, q, signature):
        known = sign_tree(kind, I, [5], q, [9], path=self.paths(kind)[q])
        self.assertEqual(signature[:2], known[:2])
        if signature == known:
            return "equal"
        form = write_tree(kind, signature)
        if not verify_tree(public, [9], form):
            return "not accepted"
        digests = {}
        for row in lms_rows(public, [9], form) + lms_rows(public, [9], write_tree(kind, known)):
            digests.setdefault(tuple(suite.digest(list(row[0]))), set()).add(row[0])
        self.assertTrue(any(len(lists) > 1 for lists in digests.values()))
        return "clash"

    def paths(self, kind):
        if not hasattr(self, "known_paths"):
            self.known_paths = [sign_tree(kind, I, [5], q, [])[2] for q in range(kind.places)]
        return self.known_paths
