"""Points 65 to 73: tree keys."""

import reference
from helpers import Case, changed, kind_of, some_bytes, tree_kinds
from sealgrove.coefficients import OneTime
from sealgrove.errors import Malformed, OutOfRange, Refused
from sealgrove.lms import (
    TreeKind, accepts_tree, child, join_nodes, leaf_list, leaf_value, node_list, node_text, node_value, sign_tree,
    tree_candidate, tree_kind_of, tree_path, tree_root,
)
from sealgrove.suites import Suite, suite_named
from sealgrove.tree import climb

I = list(range(50, 66))
LAST = 4294967295


class Kinds(Case):
    def test_fields(self):
        for height in range(26):
            one_time = OneTime(suite_named("small-7"), 4)
            kind = TreeKind(one_time, height)
            self.assertIs(kind.one_time, one_time)
            self.assertEqual((kind.suite.name, kind.height, kind.places), ("small-7", height, 2 ** height))
            self.assertEqual(kind.code, 3892314112 + 65536 + 256 * 7 + height)

    def test_codes(self):
        for width in (1, 2, 4, 8):
            found = [kind_of("sha-32", width, height).code for height in range(26)]
            for height in range(26):
                if height in (5, 10, 15, 20, 25):
                    self.assertEqual(found[height], 4 + height // 5)
                else:
                    self.assertEqual(found[height], 3892314112 + 256 * 32 + height)
        self.assertEqual(kind_of("sha-31", 8, 5).code, 3892314112 + 256 * 31 + 5)
        self.assertEqual(kind_of("small-32", 8, 25).code, 3892314112 + 65536 + 256 * 32 + 25)

    def test_heights_that_are_none(self):
        for height in (-1, 26, 27, 100):
            self.raises(OutOfRange, TreeKind, OneTime(suite_named("small-1"), 4), height)

    def test_codes_there_and_back(self):
        for core in (0, 1):
            for size in range(1, 33):
                for width in (1, 2, 4, 8):
                    one_time = OneTime(Suite(core, size), width)
                    for height in (0, 1, 5, 24, 25) if size < 31 else range(26):
                        code = TreeKind(one_time, height).code
                        found = tree_kind_of(code, one_time.code)
                        self.assertIs(type(found), TreeKind)
                        self.assertEqual((found.code, found.one_time.code, found.height), (code, one_time.code, height))
                        self.assertEqual((found.suite.name, found.one_time.width), (one_time.suite.name, width))

    def test_codes_that_are_none(self):
        kind = kind_of("small-2", 4, 3)
        for code in (0, 3, 4, 5, 9, 10, -1, LAST, 2 ** 32, kind.code + 256, kind.code - 256, kind.code - 65536,
                     kind.code + 65536, kind.code - 4, kind.code + 23, kind.code + 2 ** 32, kind.one_time.code):
            self.raises(Malformed, tree_kind_of, code, kind.one_time.code)
        for code in (0, 1, 4, 5, 9, -1, kind.code, kind.one_time.code + 1, kind.one_time.code + 256, LAST):
            self.raises(Malformed, tree_kind_of, kind.code, code)
        for once_code in (1, 2, 3, 4):
            for code in (0, 1, 2, 3, 4, 10, kind.code, 3892314112 + 256 * 32 + 5, 3892314112 + 256 * 32 + 25,
                         3892314112 + 256 * 32 + 26, 3892314112 + 256 * 31 + 4):
                self.raises(Malformed, tree_kind_of, code, once_code)
        for code in (5, 6, 7, 8, 9):
            self.assertEqual(tree_kind_of(code, 3).height, 5 * (code - 4))
            for name in ("sha-31", "small-32"):
                self.raises(Malformed, tree_kind_of, code, OneTime(suite_named(name), 4).code)


class Lists(Case):
    def test_the_parts_written_out(self):
        self.assertEqual(self.pure(leaf_list, I, 0x01020304, [8, 9]), I + [1, 2, 3, 4, 130, 130, 8, 9])
        self.assertEqual(self.pure(node_list, I, 0x01020304, [8, 9], [6, 7]), I + [1, 2, 3, 4, 131, 131, 8, 9, 6, 7])
        for number in (1, LAST):
            four = reference.num(number, 4)
            self.assertEqual(leaf_list(I, number, [1]), I + four + [130, 130, 1])
            self.assertEqual(node_list(I, number, [1], [2]), I + four + [131, 131, 1, 2])

    def test_identifiers_and_numbers_that_are_none(self):
        for identifier in ([], [1] * 15, [1] * 17):
            self.raises(OutOfRange, leaf_list, identifier, 1, [1])
            self.raises(OutOfRange, node_list, identifier, 1, [1], [2])
        for number in (-1, 0, LAST + 1, 2 ** 40):
            self.raises(OutOfRange, leaf_list, I, number, [1])
            self.raises(OutOfRange, node_list, I, number, [1], [2])

    def test_lists_of_unlike_things_are_unlike(self):
        """Point 68, for all the lists of a small key."""
        from sealgrove.chains import ends_list, message_list, randomizer_list, secret_list, step_list
        kind = kind_of("small-1", 4, 2)
        found = []
        for q in range(8):
            for chain in range(kind.one_time.p):
                found += [secret_list(I, q, chain, [5])] + [step_list(I, q, chain, step, [5]) for step in range(15)]
            found += [randomizer_list(I, q, [5]), ends_list(I, q, [[5]]), message_list(I, q, [5], [])]
            if q > 0:
                found += [leaf_list(I, q, [5]), node_list(I, q, [5], [])]
        self.assertEqual(len({tuple(data[:23]) for data in found}), len(found))


class Nodes(Case):
    def test_nodes_against_their_lists(self):
        for (name, width, height), kind, seed in tree_kinds():
            for number in range(1, 2 ** (height + 1)):
                known = reference.lms_value(name, width, height, I, seed, number)
                self.assertEqual(self.pure(node_value, kind, I, seed, number), known)
            for q in range(2 ** height):
                known = reference.lms_value(name, width, height, I, seed, 2 ** height + q)
                self.assertEqual(self.pure(leaf_value, kind, I, seed, q), known)
                path = reference.lms_path(name, width, height, I, seed, q)
                self.assertEqual(self.pure(tree_path, kind, I, seed, q), path)
            root = reference.lms_value(name, width, height, I, seed, 1)
            self.assertEqual(self.pure(tree_root, kind, I, seed), root)

    def test_joined_nodes(self):
        for (name, width, height), kind, seed in tree_kinds():
            left, right = some_bytes(kind.suite.size, 1), some_bytes(kind.suite.size, 2)
            for number in range(1, 2 ** height):
                text = I + reference.num(number, 4) + [131, 131] + left + right
                self.assertEqual(self.pure(join_nodes, kind, I, number, left, right), reference.digest(name, text))

    def test_a_published_root(self):
        """The tree of the second level in the second test case of RFC 8554."""
        identifier = list(bytes.fromhex("215f83b7ccb9acbcd08db97b0d04dc2b"))
        seed = list(bytes.fromhex("a1c4696e2608035a886100d05cd99945eb3370731884a8235e2fb3d4d71f2547"))
        root = reference.lms_value("sha-32", 8, 5, identifier, seed, 1)
        self.assertEqual(bytes(root).hex(), "a1cd035833e0e90059603f26e07ad2aad152338e7a5e5984bcd5f7bb4eba40b7")
        known = reference.lms_value("sha-32", 8, 5, identifier, seed, 32 + 4)
        self.assertEqual(leaf_value(tree_kind_of(5, 4), identifier, seed, 4), known)

    def test_what_there_is_not(self):
        for (name, width, height), kind, seed in tree_kinds():
            value = some_bytes(kind.suite.size)
            for number in (-1, 0, 2 ** (height + 1), 2 ** (height + 1) + 1, LAST, 2 ** 40):
                self.raises(OutOfRange, node_value, kind, I, seed, number)
            for number in (-1, 0, 2 ** height, 2 ** (height + 1) - 1, LAST):
                self.raises(OutOfRange, join_nodes, kind, I, number, value, value)
            for q in (-1, 2 ** height, 2 ** height + 1, LAST):
                self.raises(OutOfRange, leaf_value, kind, I, seed, q)
                self.raises(OutOfRange, tree_path, kind, I, seed, q)
                self.raises(OutOfRange, sign_tree, kind, I, seed, q, [1])
                self.raises(OutOfRange, child, kind, I, seed, q)


class Texts(Case):
    def test_node_text(self):
        kind = kind_of("small-2", 4, 3)
        for level in (1, 2, 3):
            for index in range(2 ** (3 - level)):
                text = self.pure(node_text(kind, I), level, index, [1, 2], [3, 4])
                self.assertEqual(text, I + [0, 0, 0, 2 ** (3 - level) + index, 131, 131, 1, 2, 3, 4])
        self.raises(OutOfRange, node_text, kind, [1] * 15)
        self.raises(OutOfRange, node_text, kind, [])

    def test_the_identifier_is_copied(self):
        identifier = list(I)
        text = node_text(kind_of("small-2", 4, 3), identifier)
        known = text(1, 0, [1, 2], [3, 4])
        identifier[0] = 0
        identifier.pop()
        self.assertEqual(text(1, 0, [1, 2], [3, 4]), known)

    def test_climbing_by_the_path_gives_the_root(self):
        for _, kind, seed in tree_kinds():
            root = tree_root(kind, I, seed)
            for q in range(kind.places):
                value = leaf_value(kind, I, seed, q)
                self.assertEqual(climb(kind.suite, node_text(kind, I), q, value, tree_path(kind, I, seed, q)), root)


class Signing(Case):
    def test_signatures_against_their_parts(self):
        for (name, width, height), kind, seed in tree_kinds():
            root = reference.lms_value(name, width, height, I, seed, 1)
            for q in range(2 ** height):
                for message in ([], [1, 2, 3]):
                    signature = self.pure(sign_tree, kind, I, seed, q, message)
                    once = reference.once_sign(name, width, I, q, seed, message)
                    self.assertEqual(signature, (q, once, reference.lms_path(name, width, height, I, seed, q)))
                    self.assertIs(type(signature), tuple)
                    self.assertEqual(self.pure(tree_candidate, kind, I, message, signature), root)
                    self.assertIs(self.pure(accepts_tree, kind, I, root, message, signature), True)

    def test_a_path_that_is_handed_over(self):
        for _, kind, seed in tree_kinds():
            for q in range(kind.places):
                plain = sign_tree(kind, I, seed, q, [1])
                path = [list(value) for value in plain[2]]
                self.assertEqual(self.pure(sign_tree, kind, I, seed, q, [1], path=path), plain)
                other = [some_bytes(kind.suite.size, k) for k in range(kind.height)]
                signature = self.pure(sign_tree, kind, I, seed, q, [1], path=other)
                self.assertEqual(signature, (q, plain[1], other))
            with self.assertRaises(TypeError):
                sign_tree(kind, I, seed, 0, [1], [])

    def test_a_path_that_is_handed_over_spares_the_tree(self):
        """A key of the greatest height signs, as no other leaf is needed."""
        kind = kind_of("small-1", 8, 25)
        path = [[k] for k in range(25)]
        q = 2 ** 25 - 1
        signature = sign_tree(kind, I, [5], q, [1], path=path)
        self.assertEqual(signature[2], path)
        known = reference.lms_candidate("small-1", 8, 25, I, [1], signature)
        self.assertEqual(tree_candidate(kind, I, [1], signature), known)
        self.assertTrue(accepts_tree(kind, I, known, [1], signature))

    def test_what_was_changed(self):
        for (name, width, height), kind, seed in tree_kinds():
            root = tree_root(kind, I, seed)
            q = kind.places - 1
            signature = sign_tree(kind, I, seed, q, [1, 2, 3])
            _, (randomizer, values), path = signature
            wrong = [
                (I, root, [1, 2, 4], signature), (I, root, [], signature), (changed(I, 0), root, [1, 2, 3], signature),
                (I, changed(root, 0), [1, 2, 3], signature),
                (I, root, [1, 2, 3], (q, (changed(randomizer, 0), values), path)),
                (I, root, [1, 2, 3], (q, (randomizer, [changed(values[0], 0)] + values[1:]), path)),
                (I, root, [1, 2, 3], (q, (randomizer, values[:-1] + [changed(values[-1], 0)]), path)),
            ]
            if height > 0:
                wrong += [(I, root, [1, 2, 3], (q - 1, (randomizer, values), path)),
                          (I, root, [1, 2, 3], (0, (randomizer, values), path))]
            for at in range(height):
                other = path[:at] + [changed(path[at], kind.suite.size - 1)] + path[at + 1:]
                wrong.append((I, root, [1, 2, 3], (q, (randomizer, values), other)))
            for identifier, key, message, changed_one in wrong:
                known = reference.lms_candidate(name, width, height, identifier, message, changed_one)
                self.assertEqual(tree_candidate(kind, identifier, message, changed_one), known)
                self.assertIs(accepts_tree(kind, identifier, key, message, changed_one), known == key)
                if kind.suite.size > 3:
                    self.assertNotEqual(known, key)

    def test_numbers_that_are_no_place(self):
        for _, kind, seed in tree_kinds():
            root = tree_root(kind, I, seed)
            q, once, path = sign_tree(kind, I, seed, 0, [1])
            for number in (kind.places, kind.places + 1, 2 * kind.places, LAST):
                self.assertIs(accepts_tree(kind, I, root, [1], (number, once, path)), False)
                self.raises(OutOfRange, tree_candidate, kind, I, [1], (number, once, path))
            for number in (-1, LAST + 1, None, "0", [0]):
                self.raises(OutOfRange, accepts_tree, kind, I, root, [1], (number, once, path))
                self.raises(OutOfRange, tree_candidate, kind, I, [1], (number, once, path))

    def test_long_messages(self):
        kind = kind_of("small-1", 8, 1)
        root = tree_root(kind, I, [5])
        message = [3] * 65536
        signature = sign_tree(kind, I, [5], 1, message)
        self.assertTrue(accepts_tree(kind, I, root, message, signature))
        self.raises(OutOfRange, sign_tree, kind, I, [5], 1, message + [3])
        self.raises(OutOfRange, accepts_tree, kind, I, root, message + [3], signature)
        self.raises(OutOfRange, tree_candidate, kind, I, message + [3], signature)
        # The message is looked at before the number of the signature.
        self.raises(OutOfRange, accepts_tree, kind, I, root, message + [3], (2,) + signature[1:])


class Bounds(Case):
    def setUp(self):
        self.kind = kind_of("small-2", 4, 2)
        self.signature = sign_tree(self.kind, I, [5, 6], 3, [1])

    def calls(self, identifier=I, seed=(5, 6), root=(7, 8), left=(1, 2), right=(3, 4), signature=None):
        kind, seed, root, left, right = self.kind, list(seed), list(root), list(left), list(right)
        signature = self.signature if signature is None else signature
        return {
            "leaf_value": (leaf_value, kind, identifier, seed, 0),
            "join_nodes": (join_nodes, kind, identifier, 1, left, right),
            "node_value": (node_value, kind, identifier, seed, 7),
            "tree_root": (tree_root, kind, identifier, seed),
            "tree_path": (tree_path, kind, identifier, seed, 0),
            "sign_tree": (sign_tree, kind, identifier, seed, 0, [1]),
            "tree_candidate": (tree_candidate, kind, identifier, [1], signature),
            "accepts_tree": (accepts_tree, kind, identifier, root, [1], signature),
            "child": (child, kind, identifier, seed, 0),
        }

    def refused(self, names, **named):
        calls = self.calls(**named)
        for name in names.split():
            with self.subTest(name=name, **named):
                self.raises(OutOfRange, *calls[name])

    def test_all_is_well_within_the_bounds(self):
        for call in self.calls().values():
            self.pure(*call)

    def test_identifiers_seeds_roots_and_values(self):
        for identifier in ([], [1] * 15, [1] * 17):
            self.refused(" ".join(self.calls()), identifier=identifier)
        for data in ([], [1], [1, 2, 3], [1] * 16):
            self.refused("leaf_value node_value tree_root tree_path sign_tree child", seed=data)
            self.refused("accepts_tree", root=data)
            self.refused("join_nodes", left=data)
            self.refused("join_nodes", right=data)

    def test_signatures(self):
        q, once, path = self.signature
        randomizer, values = once
        for signature in (
                (), (q, once), (q, once, path, 0), [q, once, path], (q, path, once), (q, None, path), (q, (), path),
                (q, list(once), path), (q, (randomizer, values[:-1]), path), (q, (randomizer, values + [[1, 2]]), path),
                (q, ([1], values), path), (q, (randomizer, [[1]] * len(values)), path), (q, once, []),
                (q, once, path[:1]), (q, once, path + [[1, 2]]), (q, once, [[1, 2], [1]]), (q, once, [[1, 2, 3], [1, 2]]),
                (q, once, [[1, 2], [1, 256]]), (q, once, tuple(path)), (q, once, [(1, 2), (3, 4)]), (q, once, None),
                (q, once, [None, None]), 5):
            self.refused("tree_candidate accepts_tree", signature=signature)


class Children(Case):
    def test_children(self):
        for (name, width, height), kind, seed in tree_kinds():
            mark = [9, 8, 7, 6, 5, 4, 3]
            for level in (0, 1, 100, 254):
                for number in (0, 1, 255, 2 ** 32 + 5, 2 ** (64 - height) - 1):
                    identifier = mark + [level] + reference.num(number, 8)
                    for q in (0, kind.places - 1):
                        found = self.pure(child, kind, identifier, seed, q)
                        known = mark + [level + 1] + reference.num(number * 2 ** height + q, 8)
                        data = identifier + reference.num(q, 4) + [255, 254, 255] + seed
                        self.assertEqual(found, (known, reference.digest(name, data)))
                        self.assertIs(type(found), tuple)

    def test_all_below_one_key_are_unlike(self):
        kind = kind_of("small-2", 4, 2)
        keys, found = [([1] * 7 + [0] * 9, [5, 6])], []
        for level in range(1, 5):
            keys = [child(kind, identifier, seed, q) for identifier, seed in keys for q in range(4)]
            for number, (identifier, _) in enumerate(keys):
                self.assertEqual(identifier, [1] * 7 + [level] + reference.num(number, 8))
            found += [tuple(identifier) for identifier, _ in keys]
        self.assertEqual(len(set(found)), 4 + 16 + 64 + 256)

    def test_levels_and_numbers_without_room(self):
        for _, kind, seed in tree_kinds():
            height = kind.height
            for q in (0, kind.places - 1):
                for number in (0, 5):
                    self.raises(Refused, child, kind, [1] * 7 + [255] + reference.num(number, 8), seed, q)
                for number in (2 ** (64 - height), 2 ** 64 - 1):
                    if height > 0:
                        self.raises(Refused, child, kind, [1] * 7 + [0] + reference.num(number, 8), seed, q)
        kind = kind_of("small-1", 8, 0)
        self.assertEqual(child(kind, [1] * 7 + [0] + [255] * 8, [5], 0)[0], [1] * 7 + [1] + [255] * 8)

    def test_what_is_out_of_range_comes_first(self):
        kind = kind_of("small-2", 4, 2)
        full = [255] * 16
        self.raises(Refused, child, kind, full, [5, 6], 3)
        self.raises(OutOfRange, child, kind, full[:-1], [5, 6], 3)
        self.raises(OutOfRange, child, kind, full, [5], 3)
        self.raises(OutOfRange, child, kind, full, [5, 6], 4)
        self.raises(OutOfRange, child, kind, full, [5, 6], -1)
