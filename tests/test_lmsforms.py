"""Points 68, 74, 75 and 80 to 82: forms and rows of tree keys."""

import itertools

import reference
from helpers import Case, changed, kind_of, shorter_and_longer, tree_kinds
from sealgrove.errors import Malformed, OutOfRange
from sealgrove.lms import sign_tree, tree_root
from sealgrove.lmsforms import lms_rows, read_public, read_tree, verify_tree, write_public, write_tree

I = list(range(50, 66))
LAST = 4294967295


def keys():
    """The kind as words and as an object, the root and the form of the public key, and a signature and its form."""
    message = [1, 2, 3]
    for words, kind, seed in tree_kinds():
        root = tree_root(kind, I, seed)
        signature = sign_tree(kind, I, seed, kind.places - 1, message)
        yield words, kind, root, reference.lms_public(*words, I, root), signature, reference.lms_form(*words, signature)


class PublicForms(Case):
    def test_there_and_back(self):
        for _, kind, root, public, _, _ in keys():
            self.assertEqual(self.pure(write_public, kind, I, root), public)
            self.assertEqual(len(public), 24 + kind.suite.size)
            found, identifier, key = self.pure(read_public, public)
            self.assertEqual((found.code, found.one_time.code), (kind.code, kind.one_time.code))
            self.assertEqual((found.height, found.suite.name, found.places), (kind.height, kind.suite.name, kind.places))
            self.assertEqual((identifier, key), (I, root))
            self.assertIs(type(read_public(public)), tuple)

    def test_short_codes(self):
        for height in (5, 10, 15, 20, 25):
            public = write_public(kind_of("sha-32", 4, height), I, [7] * 32)
            self.assertEqual(public, [0, 0, 0, 4 + height // 5, 0, 0, 0, 3] + I + [7] * 32)
            self.assertEqual(read_public(public)[0].height, height)

    def test_a_changed_byte_gives_another_key_or_no_form(self):
        for _, kind, root, public, _, _ in keys():
            for at, by in itertools.product(range(len(public)), (1, 2, 4, 128, 255)):
                data = changed(public, at, by)
                if at >= 8:
                    found, identifier, key = read_public(data)
                    self.assertEqual((found.code, identifier + key), (kind.code, data[8:]))
                else:
                    try:
                        self.assertEqual(write_public(*read_public(data)), data)
                    except Malformed:
                        pass

    def test_lists_of_another_length(self):
        for _, _, _, public, _, _ in keys():
            for at in range(len(public)):
                self.raises(Malformed, read_public, public[:at])
            for data in (public + [0], public + public, [0] + public):
                self.raises(Malformed, read_public, data)
            for at in range(8, len(public)):
                self.raises(Malformed, read_public, public[:at] + public[at + 1:])
                self.raises(Malformed, read_public, public[:at] + [5] + public[at:])

    def test_codes_that_do_not_belong_together(self):
        names = ("sha-4", "sha-5", "small-4", "small-5")
        for one, other in itertools.permutations(names, 2):
            root = [7] * reference.size(other)
            for height, width in ((0, 1), (5, 4), (25, 8)):
                codes = reference.num(reference.kind_code(one, height), 4) + reference.num(
                    reference.once_code(other, width), 4)
                self.raises(Malformed, read_public, codes + I + root)
                self.raises(Malformed, read_public, codes + I + [7] * reference.size(one))
        for height in (5, 25):
            for name in ("sha-31", "small-32"):
                for first, second in (("sha-32", name), (name, "sha-32")):
                    codes = reference.num(reference.kind_code(first, height), 4) + reference.num(
                        reference.once_code(second, 4), 4)
                    self.raises(Malformed, read_public, codes + I + [7] * 32)

    def test_codes_of_no_kind(self):
        good = reference.lms_public("small-4", 4, 3, I, [7] * 4)
        for number in (0, 1, 4, 5, 9, 10, 3758096384, 3892314112, 3892314112 + 65536 + 256 * 4 + 26, LAST):
            self.raises(Malformed, read_public, reference.num(number, 4) + good[4:])
        for number in (0, 1, 3, 5, 3758096384, 3758096384 + 65536 + 256 * 4 + 3, 3892314112 + 65536 + 256 * 4 + 3, LAST):
            self.raises(Malformed, read_public, good[:4] + reference.num(number, 4) + good[8:])
        # Each kind has one code alone: those of sha-32 that have short codes have no long ones.
        long_code = reference.num(3892314112 + 256 * 32 + 5, 4)
        self.raises(Malformed, read_public, long_code + reference.num(3, 4) + I + [7] * 32)
        self.raises(Malformed, read_public,
                    reference.num(5, 4) + reference.num(3758096384 + 256 * 32 + 4, 4) + I + [7] * 32)

    def test_what_is_refused(self):
        kind = kind_of("small-2", 4, 3)
        for identifier in ([], [1] * 15, [1] * 17):
            self.raises(OutOfRange, write_public, kind, identifier, [7, 7])
        for root in ([], [7], [7] * 3, [7] * 16):
            self.raises(OutOfRange, write_public, kind, I, root)


class SignatureForms(Case):
    def test_there_and_back(self):
        for (name, width, height), kind, _, _, signature, form in keys():
            p = reference.parameters(name, width)[4]
            for q in sorted({0, kind.places // 2, kind.places - 1}):
                placed = (q,) + signature[1:]
                data = self.pure(write_tree, kind, placed)
                self.assertEqual(data, reference.lms_form(name, width, height, placed))
                self.assertEqual(len(data), 12 + kind.suite.size * (p + 1 + height))
                self.assertEqual(self.pure(read_tree, kind, data), placed)
            self.assertIs(type(read_tree(kind, form)), tuple)
            self.assertIs(type(read_tree(kind, form)[1]), tuple)

    def test_a_changed_byte_gives_another_signature_or_no_form(self):
        for words, kind, _, _, _, form in keys():
            behind = len(form) - kind.suite.size * kind.height
            codes = list(range(4, 8)) + list(range(behind - 4, behind))
            step = len(form) // 100 + 1
            for at, by in itertools.product(sorted(set(codes + list(range(0, len(form), step)))), (1, 128, 255)):
                data = changed(form, at, by)
                if at in codes or reference.num(kind.places, 4) <= data[:4]:
                    self.raises(Malformed, read_tree, kind, data)
                else:
                    self.assertEqual(reference.lms_form(*words, read_tree(kind, data)), data)
            for at, by in itertools.product(codes, range(1, 256, step)):
                self.raises(Malformed, read_tree, kind, changed(form, at, by))

    def test_lists_of_another_length(self):
        for _, kind, _, _, _, form in keys():
            for data in shorter_and_longer(form):
                self.raises(Malformed, read_tree, kind, data)
            self.raises(Malformed, read_tree, kind, [])

    def test_numbers_that_are_no_place(self):
        for _, kind, _, _, signature, form in keys():
            for q in (kind.places, kind.places + 1, 2 * kind.places, LAST):
                self.raises(Malformed, read_tree, kind, reference.num(q, 4) + form[4:])
                self.raises(OutOfRange, write_tree, kind, (q,) + signature[1:])
            for q in (-1, LAST + 1, None, True):
                self.raises(OutOfRange, write_tree, kind, (q,) + signature[1:])

    def test_forms_of_another_kind(self):
        found = list(keys())
        for one, other in itertools.permutations(found, 2):
            self.raises(Malformed, read_tree, one[1], other[5])
        # Kinds whose forms have one length.
        for name, width, height in (("small-4", 4, 2), ("sha-4", 4, 2)):
            q, once, path = sign_tree(kind_of(name, width, height), I, [5] * 4, 1, [1])
            form = reference.lms_form(name, width, height, (q, once, path))
            for other in ("small-4", "sha-4"):
                if other != name:
                    self.raises(Malformed, read_tree, kind_of(other, width, height), form)

    def test_signatures_that_are_refused(self):
        kind = kind_of("small-2", 4, 2)
        q, once, path = sign_tree(kind, I, [5, 6], 3, [1])
        randomizer, values = once
        for signature in (
                (), (q, once), (q, once, path, 0), [q, once, path], (q, None, path), (q, (), path), (q, once, None),
                (q, (randomizer, values[:-1]), path), (q, (randomizer, values + [[1, 2]]), path), (q, ([1], values), path),
                (q, (randomizer, [[1]] * len(values)), path), (q, once, []), (q, once, path[:1]),
                (q, once, path + [[1, 2]]), (q, once, [[1, 2], [1]]), (q, once, [[1, 2, 3], [1, 2]]),
                (q, once, [[1, 2], [1, 256]]), (q, once, tuple(path)), 5):
            self.raises(OutOfRange, write_tree, kind, signature)


class Checking(Case):
    def test_what_was_signed_is_accepted(self):
        for words, kind, seed in tree_kinds():
            public = write_public(kind, I, tree_root(kind, I, seed))
            for q in range(kind.places):
                for message in ([], [1, 2, 3]):
                    signature = reference.lms_sign(*words, I, seed, q, message)
                    data = reference.lms_form(*words, signature)
                    self.assertIs(self.pure(verify_tree, public, message, data), True)
                    rows = self.pure(lms_rows, public, message, data)
                    self.assertEqual(rows, reference.lms_rows(*words, I, message, signature))
                    self.hang_together(kind.suite, rows, read_public(public)[2])

    def test_the_rows_from_the_root_down(self):
        kind = kind_of("small-2", 4, 3)
        public = write_public(kind, I, tree_root(kind, I, [5, 6]))
        q, once, path = signature = sign_tree(kind, I, [5, 6], 6, [9])
        rows = lms_rows(public, [9], write_tree(kind, signature))
        self.assertEqual([row[0][16:22] for row in rows[:5]], [
            (0, 0, 0, 1, 131, 131), (0, 0, 0, 3, 131, 131), (0, 0, 0, 7, 131, 131), (0, 0, 0, 14, 130, 130),
            (0, 0, 0, 6, 128, 128)])
        # The place 6 is the leaf 14: a left one, below the node 7, which is a right one, as is the node 3.
        self.assertEqual([row[1][side] for row, side in zip(rows, (0, 0, 1))],
                         [tuple(value) for value in reversed(path)])
        self.assertEqual(rows[3][1], (rows[3][0][22:],))
        self.assertEqual(rows[-1], (tuple(I + [0, 0, 0, 6, 129, 129] + once[0] + [9]), (), True))
        self.assertEqual([row[2] for row in rows[:-1]], [False] * (len(rows) - 1))

    def test_what_is_not_accepted(self):
        for words, kind, root, public, signature, form in keys():
            wrong = [(public, [1, 2, 4], form), (public, [], form)]
            wrong += [(changed(public, at), [1, 2, 3], form) for at in (8, 23, 24, len(public) - 1)]
            last = len(form) - kind.suite.size * kind.height - 5
            wrong += [(public, [1, 2, 3], changed(form, at)) for at in (8, (8 + last) // 2, last)]
            if kind.height > 0:
                wrong.append((public, [1, 2, 3], changed(form, len(form) - 1)))
                wrong += [(public, [1, 2, 3], reference.num(q, 4) + form[4:]) for q in range(kind.places - 1)]
            for key, message, data in wrong:
                known = reference.lms_candidate(*words, key[8:24], message, read_tree(kind, data)) == key[24:]
                self.assertIs(self.pure(verify_tree, key, message, data), known)
                if known:
                    self.assertIsNotNone(lms_rows(key, message, data))
                else:
                    self.assertIsNone(lms_rows(key, message, data))

    def test_lists_that_are_no_forms(self):
        for _, kind, _, public, _, form in keys():
            self.assertTrue(verify_tree(public, [1, 2, 3], form))
            pairs = [(public, data) for data in shorter_and_longer(form)]
            pairs += [(data, form) for data in shorter_and_longer(public) if len(data) != len(public)]
            pairs += [(public, reference.num(kind.places, 4) + form[4:]), ([], []), (public, []), ([], form),
                      (form, public), (public, public), (changed(public, 0), form), (changed(public, 4), form)]
            for key, data in pairs:
                self.assertIs(verify_tree(key, [1, 2, 3], data), False)
                self.assertIsNone(lms_rows(key, [1, 2, 3], data))

    def test_long_messages(self):
        kind = kind_of("small-1", 8, 1)
        public = write_public(kind, I, tree_root(kind, I, [5]))
        message = [3] * 65536
        data = write_tree(kind, sign_tree(kind, I, [5], 1, message))
        self.assertTrue(verify_tree(public, message, data))
        self.assertEqual(lms_rows(public, message, data)[-1][0][-65536:], tuple(message))
        for key, form in ((public, data), ([], []), (public, []), ([], data)):
            self.raises(OutOfRange, verify_tree, key, message + [3], form)
            self.raises(OutOfRange, lms_rows, key, message + [3], form)


class OtherSignatures(Case):
    """Points 81 and 82, with digests of one byte, so that changed signatures are often accepted."""

    def setUp(self):
        self.kind = kind_of("small-1", 4, 3)
        self.public = write_public(self.kind, I, tree_root(self.kind, I, [5]))

    def accepted(self, q, message):
        """The signature that was made, and all accepted ones with one byte changed."""
        form = write_tree(self.kind, sign_tree(self.kind, I, [5], q, message))
        forms = [form] + [changed(form, at, by) for at in range(8, len(form)) for by in range(1, 256)]
        return [data for data in forms if verify_tree(self.public, message, data)]

    def test_rows_part_at_lists_with_one_digest(self):
        suite = self.kind.suite
        parted = 0
        for q in (0, 5):
            own = reference.lms_rows("small-1", 4, 3, I, [7], sign_tree(self.kind, I, [5], q, [7]))[:5]
            for message in ([7], [8, 8]):
                found = [lms_rows(self.public, message, data) for data in self.accepted(q, message)]
                self.assertGreater(len(found), 10)
                for rows in found:
                    self.hang_together(suite, rows, read_public(self.public)[2])
                    for row, known in zip(rows, own):
                        self.assertEqual(suite.digest(list(row[0])), suite.digest(list(known[0])))
                        if row[0] != known[0]:
                            parted += 1
                            break
                        self.assertEqual(row[1], known[1])
                for one, other in itertools.combinations(found, 2):
                    unlike = [(x, y) for x, y in zip(one[:5], other[:5]) if x[0] != y[0]]
                    if unlike:
                        x, y = unlike[0]
                        self.assertEqual(suite.digest(list(x[0])), suite.digest(list(y[0])))
        self.assertGreater(parted, 10)


class UnlikeThings(Case):
    def test_the_lists_of_an_accepted_signature_tell_what_they_are(self):
        """Point 68: no two rows of unlike things are alike, in the rows of all places."""
        kind = kind_of("small-1", 2, 2)
        public = write_public(kind, I, tree_root(kind, I, [5]))
        found = {}
        for q in range(4):
            for message in ([], [1], [2]):
                data = write_tree(kind, sign_tree(kind, I, [5], q, message))
                for at, (listed, _, _) in enumerate(lms_rows(public, message, data)):
                    number, mark = listed[16:20], listed[20:22]
                    # Behind the mark of a chain stands the step.
                    thing = (number, mark) if mark[0] > 127 else (number, mark, listed[22])
                    same = found.setdefault(thing, (len(listed), set()))
                    same[1].add(listed)
                    if mark != (129, 129):
                        self.assertEqual(same[0], len(listed))
        marks = {thing[1] for thing in found}
        self.assertEqual({mark for mark in marks if mark[0] > 127}, {(131, 131), (130, 130), (128, 128), (129, 129)})
        # The lists of a key are its own: for each thing but the message there is one list alone.
        for thing, (_, lists) in found.items():
            self.assertEqual(len(lists), 3 if thing[1] == (129, 129) else 1)
