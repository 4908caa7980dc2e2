"""Points 130 to 138 and 141 to 143: towers with states."""

import itertools
import unittest.mock

import reference
import reference_tower as known
from helpers import Case, changed, kind_of, shorter_and_longer, some_bytes
from sealgrove import tower as module
from sealgrove.errors import Malformed, OutOfRange, UsedUp
from sealgrove.lmsforms import read_public, write_public, write_tree
from sealgrove.tower import (
    Tower, TowerSigner, level_key, number_in, read_tower, read_tower_public, sign_tower, tower_public, tower_rows,
    verify_tower, write_tower,
)

I = list(range(60, 67)) + [0] * 9
LAST = 4294967295
TOWERS = (
    [("small-2", 8, 2)],
    [("small-1", 4, 0)],
    [("small-4", 4, 1), ("small-4", 4, 2)],
    [("small-2", 2, 2), ("small-2", 4, 0), ("small-2", 1, 1)],
    [("sha-3", 4, 1), ("sha-3", 4, 1)],
    [("small-8", 1, 1), ("small-8", 4, 1), ("small-8", 2, 1)],
)


def tower_of(words):
    return Tower([kind_of(*level) for level in words])


def samples():
    """Towers as words and as objects, with a seed."""
    for words in TOWERS:
        tower = tower_of(words)
        yield words, tower, some_bytes(tower.suite.size, 3)


class Towers(Case):
    def test_fields(self):
        for count in range(1, 9):
            kinds = [kind_of("small-2", (1, 2, 4, 8)[k % 4], k) for k in range(count)]
            tower = Tower(kinds)
            self.assertIs(type(tower.kinds), tuple)
            self.assertTrue(all(one is other for one, other in zip(tower.kinds, kinds)))
            self.assertEqual(len(tower.kinds), count)
            self.assertEqual((tower.suite.name, tower.total), ("small-2", 2 ** sum(range(count))))
            kinds.clear()
            self.assertEqual(len(tower.kinds), count)

    def test_numbers_of_levels_that_are_none(self):
        kind = kind_of("small-2", 4, 0)
        for count in (0, 9, 10, 100):
            self.raises(OutOfRange, Tower, [kind] * count)
        self.assertEqual(Tower([kind] * 8).total, 1)

    def test_unlike_suites(self):
        kind = kind_of("small-2", 4, 1)
        for name in ("sha-2", "small-1", "small-3", "sha-32"):
            other = kind_of(name, 4, 1)
            for kinds in ([kind, other], [other, kind], [kind, kind, other], [kind, other, kind]):
                self.raises(OutOfRange, Tower, kinds)
        # The suites need not be one object.
        self.assertEqual(Tower([kind, kind_of("small-2", 8, 1)]).total, 4)

    def test_heights_together(self):
        for heights in ((25, 25, 10), (20, 20, 20), (8, 8, 8, 8, 7, 7, 7, 7), (25, 25, 0, 10)):
            kinds = [kind_of("small-1", 8, height) for height in heights]
            self.assertEqual(Tower(kinds).total, 2 ** 60)
            for at, height in enumerate(heights):
                if height < 25:
                    taller = kinds[:at] + [kind_of("small-1", 8, height + 1)] + kinds[at + 1:]
                    self.raises(OutOfRange, Tower, taller)
        self.raises(OutOfRange, Tower, [kind_of("small-1", 8, 25)] * 8)


class Numbers(Case):
    def test_there_and_back(self):
        for words, tower, _ in samples():
            self.assertEqual(tower.total, known.total(words))
            for number in range(tower.total):
                found = self.pure(tower.places, number)
                self.assertEqual(found, known.places(words, number))
                self.assertEqual(self.pure(tower.number_of, found), number)
            self.assertEqual(len({tuple(tower.places(number)) for number in range(tower.total)}), tower.total)

    def test_great_towers(self):
        tower = tower_of([("small-1", 8, 25), ("small-1", 8, 10), ("small-1", 8, 25)])
        for number in (0, 1, 2 ** 25 - 1, 2 ** 25, 2 ** 35 - 1, 2 ** 35, 2 ** 60 - 1, 123456789012345678):
            found = tower.places(number)
            self.assertEqual(found, [number >> 35, number >> 25 & 1023, number & 2 ** 25 - 1])
            self.assertEqual(tower.number_of(found), number)

    def test_the_places_of_following_numbers(self):
        """A level changes exactly when the trees below its place are through."""
        for words, tower, _ in samples():
            for number in range(1, tower.total):
                before, after = tower.places(number - 1), tower.places(number)
                for level in range(len(words)):
                    under = known.total(words[level + 1:])
                    self.assertEqual(before[level] != after[level], number % under == 0 and words[level][2] > 0)

    def test_what_is_refused(self):
        for words, tower, _ in samples():
            for number in (-1, tower.total, tower.total + 1, 2 ** 60, 10 ** 5000):
                self.raises(OutOfRange, tower.places, number)
            zeros = [0] * len(words)
            for places in ([], zeros[:-1], zeros + [0]):
                if len(places) != len(zeros):
                    self.raises(OutOfRange, tower.number_of, places)
            for at, (_, _, height) in enumerate(words):
                for place in (-1, 2 ** height, 2 ** height + 1, 10 ** 5000):
                    self.raises(OutOfRange, tower.number_of, zeros[:at] + [place] + zeros[at + 1:])


class Keys(Case):
    def test_level_keys_are_unlike(self):
        for words, tower, seed in samples():
            found = []
            for count in range(len(words)):
                for places in itertools.product(*[range(2 ** height) for _, _, height in words[:count]]):
                    key = self.pure(level_key, tower, I, seed, list(places))
                    self.assertEqual(key, known.level_key(words, I, seed, places))
                    self.assertIs(type(key), tuple)
                    found.append(tuple(key[0]))
            self.assertEqual(len(set(found)), len(found))

    def test_great_towers(self):
        """Point 132: the numbers of the trees have room in an identifier."""
        tower = tower_of([("small-1", 8, 25), ("small-1", 8, 25), ("small-1", 8, 10), ("small-1", 8, 0)])
        identifier, _ = level_key(tower, I, [5], [2 ** 25 - 1, 2 ** 25 - 1, 2 ** 10 - 1])
        self.assertEqual(identifier, I[:7] + [3] + reference.num(2 ** 60 - 1, 8))

    def test_what_no_level_key_has(self):
        for words, tower, seed in samples():
            levels = len(words)
            for count in (levels, levels + 1, levels + 5):
                self.raises(OutOfRange, level_key, tower, I, seed, [0] * count)
            for at, (_, _, height) in enumerate(words[:-1]):
                for place in (-1, 2 ** height, 10 ** 5000):
                    self.raises(OutOfRange, level_key, tower, I, seed, [0] * at + [place])

    def test_public_keys(self):
        for words, tower, seed in samples():
            public = self.pure(tower_public, tower, I, seed)
            self.assertEqual(public, known.public(words, I, seed))
            levels, kind, identifier, root = self.pure(read_tower_public, public)
            self.assertIs(type(read_tower_public(public)), tuple)
            self.assertEqual((levels, kind.code, kind.one_time.code), (
                len(words), tower.kinds[0].code, tower.kinds[0].one_time.code))
            self.assertEqual((identifier, root), (I, public[28:]))

    def test_public_keys_that_are_no_form(self):
        for words, tower, seed in samples():
            public = tower_public(tower, I, seed)
            for at in range(len(public)):
                self.raises(Malformed, read_tower_public, public[:at])
                if at < 4:
                    self.raises(Malformed, read_tower_public, public[at + 1:])
            for data in (public + [0], public[4:], public + public):
                self.raises(Malformed, read_tower_public, data)
            for levels in range(300):
                data = reference.num(levels, 4) + public[4:]
                if 1 <= levels <= 8:
                    self.assertEqual(read_tower_public(data)[0], levels)
                else:
                    self.raises(Malformed, read_tower_public, data)
            for levels in (2 ** 24, 2 ** 24 + 1, 2 ** 31, LAST):
                self.raises(Malformed, read_tower_public, reference.num(levels, 4) + public[4:])
            # What identifiers it tells is not looked at.
            for at in range(12, len(public)):
                self.assertEqual(read_tower_public(changed(public, at))[2:], (
                    changed(public, at)[12:28], changed(public, at)[28:]))


class Signing(Case):
    def test_signatures_at_every_place(self):
        for words, tower, seed in samples():
            public = known.public(words, I, seed)
            for number in range(tower.total):
                for message in ([], [number, 7]):
                    data = self.pure(sign_tower, tower, I, seed, number, message)
                    self.assertEqual(data, known.form(words, I, seed, number, message))
                    self.assertIs(self.pure(verify_tower, public, message, data), True)
                    self.assertEqual(self.pure(number_in, public, data), number)
                    self.assertEqual(self.pure(read_tower, public, data),
                                     known.signature(words, I, seed, number, message))

    def test_one_list_is_signed_at_each_place_above(self):
        """Point 133: however often a place below it is used, a place above signs the same list in the same way."""
        for words, tower, seed in samples():
            public = tower_public(tower, I, seed)
            found = {}
            for number in range(tower.total):
                places = tower.places(number)
                for message in ([], [number]):
                    pairs, _ = read_tower(public, sign_tower(tower, I, seed, number, message))
                    for level, pair in enumerate(pairs):
                        self.assertEqual(found.setdefault(tuple(places[:level + 1]), pair), pair)

    def test_all_trees_have_unlike_identifiers(self):
        """Point 132, in the forms that are signed."""
        for words, tower, seed in samples():
            public = tower_public(tower, I, seed)
            found = {tuple(I): ()}
            for number in range(tower.total):
                places = tower.places(number)
                pairs, _ = read_tower(public, sign_tower(tower, I, seed, number, [1]))
                for level, (_, form) in enumerate(pairs):
                    where = tuple(places[:level + 1])
                    self.assertEqual(found.setdefault(tuple(form[8:24]), where), where)
            self.assertEqual(len(set(found.values())), len(found))

    def test_what_is_refused(self):
        for words, tower, seed in samples():
            for identifier in ([], I[:-1], I + [0], [0] * 15, I[:7] + [1] + [0] * 8, I[:-1] + [1], [1] * 16):
                self.raises(OutOfRange, level_key, tower, identifier, seed, [])
                self.raises(OutOfRange, tower_public, tower, identifier, seed)
                self.raises(OutOfRange, sign_tower, tower, identifier, seed, 0, [1])
                self.raises(OutOfRange, TowerSigner, tower, identifier, seed)
            for wrong in ([], seed[:-1], seed + [0]):
                self.raises(OutOfRange, level_key, tower, I, wrong, [])
                self.raises(OutOfRange, tower_public, tower, I, wrong)
                self.raises(OutOfRange, sign_tower, tower, I, wrong, 0, [1])
                self.raises(OutOfRange, TowerSigner, tower, I, wrong)
            for number in (-1, tower.total, tower.total + 1, 10 ** 5000):
                self.raises(OutOfRange, sign_tower, tower, I, seed, number, [1])
            self.raises(OutOfRange, sign_tower, tower, I, seed, 0, [1] * 65537)

    def test_long_messages(self):
        words = [("small-1", 8, 0), ("small-1", 8, 0)]
        tower, message = tower_of(words), [3] * 65536
        public = tower_public(tower, I, [5])
        data = sign_tower(tower, I, [5], 0, message)
        self.assertTrue(verify_tower(public, message, data))
        for key, form in ((public, data), ([], []), (public, []), ([], data)):
            self.raises(OutOfRange, verify_tower, key, message + [3], form)
            self.raises(OutOfRange, tower_rows, key, message + [3], form)


class Checking(Case):
    def setUp(self):
        self.words = TOWERS[5]
        self.tower = tower_of(self.words)
        self.seed = some_bytes(8, 3)
        self.public = tower_public(self.tower, I, self.seed)
        self.data = sign_tower(self.tower, I, self.seed, 5, [1, 2])

    def wrong(self, public, message, data):
        self.assertIs(verify_tower(public, message, data), False)
        self.assertIsNone(tower_rows(public, message, data))

    def test_a_changed_byte(self):
        self.assertTrue(verify_tower(self.public, [1, 2], self.data))
        for at in range(len(self.data)):
            self.wrong(self.public, [1, 2], changed(self.data, at))
        for at in range(len(self.public)):
            self.wrong(changed(self.public, at), [1, 2], self.data)
        for message in ([], [1], [1, 3], [1, 2, 0]):
            self.wrong(self.public, message, self.data)

    def test_parts_of_other_signatures(self):
        """A level that another place of the same tower, or another tree, signed."""
        pairs, last = read_tower(self.public, self.data)
        for number in range(8):
            if number != 5:
                other_pairs, other = read_tower(self.public, sign_tower(self.tower, I, self.seed, number, [1, 2]))
                same_tree = number // 2 == 2
                data = write_tower(self.public, (pairs, other))
                self.assertIs(verify_tower(self.public, [1, 2], data), same_tree)
                data = write_tower(self.public, (pairs[:1] + other_pairs[1:], last))
                self.assertIs(verify_tower(self.public, [1, 2], data), same_tree)
                data = write_tower(self.public, (other_pairs[:1] + pairs[1:], last))
                self.assertIs(verify_tower(self.public, [1, 2], data), number // 4 == 1)

    def test_forms_there_and_back(self):
        for words, tower, seed in samples():
            public = tower_public(tower, I, seed)
            for number in range(tower.total):
                data = sign_tower(tower, I, seed, number, [9])
                signature = read_tower(public, data)
                self.assertIs(type(signature), tuple)
                self.assertTrue(all(type(pair) is tuple for pair in signature[0]))
                self.assertEqual(self.pure(write_tower, public, signature), data)

    def test_lists_that_are_no_forms(self):
        for words, tower, seed in samples():
            public = tower_public(tower, I, seed)
            data = sign_tower(tower, I, seed, tower.total - 1, [9])
            lists = list(shorter_and_longer(data)) + [[], public]
            lists += [reference.num(count, 4) + data[4:] for count in (0, 1, 2, 3, 7, 8, 256, LAST) if count != len(words) - 1]
            for form in lists:
                self.no_form(public, form)
            for levels in range(1, 9):
                if levels != len(words):
                    self.no_form(reference.num(levels, 4) + public[4:], data)
            for key in ([], public[:-1], public + [0], public[4:], reference.num(0, 4) + public[4:],
                        reference.num(9, 4) + public[4:], data):
                self.no_form(key, data)

    def no_form(self, public, data):
        self.raises(Malformed, read_tower, public, data)
        self.raises(Malformed, number_in, public, data)
        self.wrong(public, [9], data)

    def test_changed_bytes_give_other_signatures_or_no_form(self):
        for words, tower, seed in samples():
            public = tower_public(tower, I, seed)
            data = sign_tower(tower, I, seed, 0, [9])
            for at in range(0, len(data), len(data) // 150 + 1):
                for by in (1, 3, 128):
                    other = changed(data, at, by)
                    try:
                        signature = read_tower(public, other)
                    except Malformed:
                        self.raises(Malformed, number_in, public, other)
                        continue
                    self.assertEqual(write_tower(public, signature), other)

    def test_numbers_that_are_no_place(self):
        public, data = self.public, self.data
        for number in (2, 3, LAST):
            self.no_form(public, data[:4] + reference.num(number, 4) + data[8:])

    def test_a_level_of_another_suite(self):
        """Forms of one length, of which the one below has another core."""
        for one, other in (("sha-2", "small-2"), ("small-2", "sha-2")):
            above, below = kind_of(one, 4, 1), kind_of(other, 4, 1)
            public = [0, 0, 0, 2] + write_public(above, I, [1, 2])
            for kind in (above, below):
                form = write_public(kind, I, [3, 4])
                data = [0, 0, 0, 1] + write_tree(above, self.blank(above)) + form + write_tree(kind, self.blank(kind))
                if kind is above:
                    self.assertEqual(read_tower(public, data), ([(self.blank(above), form)], self.blank(kind)))
                else:
                    self.no_form(public, data)
                    with self.assertRaises(Malformed):
                        write_tower(public, ([(self.blank(above), form)], self.blank(kind)))

    def blank(self, kind, q=0):
        """A tree signature of zeros, which has the form of one."""
        value = [0] * kind.suite.size
        return q, (value, [value] * kind.one_time.p), [value] * kind.height

    def great(self, heights, qs):
        """A public key, and the parts of a signature of zeros."""
        kinds = [kind_of("small-1", 8, height) for height in heights]
        public = reference.num(len(heights), 4) + write_public(kinds[0], I, [1])
        parts = [self.blank(kind, q) for kind, q in zip(kinds, qs)]
        forms = [write_public(kind, I, [1]) for kind in kinds[1:]]
        data = reference.num(len(heights) - 1, 4)
        for k, part in enumerate(parts):
            data += write_tree(kinds[k], part) + (forms[k] if k < len(forms) else [])
        return public, (list(zip(parts, forms)), parts[-1]), data

    def test_heights_of_60_and_more_together(self):
        public, signature, data = self.great((25, 25, 10), (2 ** 25 - 1, 5, 7))
        self.assertEqual(read_tower(public, data), signature)
        self.assertEqual(write_tower(public, signature), data)
        self.assertEqual(number_in(public, data), ((2 ** 25 - 1 << 25) + 5 << 10) + 7)
        for heights in ((25, 25, 11), (25, 24, 12), (11, 25, 25), (25, 25, 25), (25,) * 8, (20, 20, 20, 1)):
            public, signature, data = self.great(heights, (0,) * len(heights))
            self.no_form(public, data)
            self.raises(Malformed, write_tower, public, signature)

    def test_what_is_no_signature_for_the_public_key(self):
        pairs, last = read_tower(self.public, self.data)
        for signature in ((pairs[:1], last), ([], last), (pairs + pairs[:1], last), (pairs[::-1], last),
                          ([(pairs[0][0], pairs[0][1][:-1]), pairs[1]], last)):
            with self.assertRaises((Malformed, OutOfRange)):
                write_tower(self.public, signature)
        for public in ([], self.public[:-1], self.public + [0]):
            self.raises(Malformed, write_tower, public, (pairs, last))


class Rows(Case):
    def test_rows(self):
        for words, tower, seed in samples():
            public = tower_public(tower, I, seed)
            for number in range(tower.total):
                data = sign_tower(tower, I, seed, number, [9, number])
                rows = self.pure(tower_rows, public, [9, number], data)
                self.assertEqual(rows, known.rows(words, I, seed, number, [9, number]))
                self.hang_together(tower.suite, rows, public[28:])
                loose = [row for row in rows if row[2]]
                self.assertEqual(len(loose), len(words))
                self.assertEqual(loose[-1][1], ())
                forms = [form for _, form in read_tower(public, data)[0]]
                self.assertEqual([row[1] for row in loose[:-1]], [(tuple(read_public(form)[2]),) for form in forms])
                self.assertEqual([list(row[0][-len(form):]) for row, form in zip(loose, forms)], forms)

    def test_two_signatures_with_the_same_rows(self):
        """Point 142, with digests of one byte, so that one signature is often accepted for several messages."""
        tower = tower_of([("small-1", 4, 1), ("small-1", 4, 1)])
        public = tower_public(tower, I, [5])
        found = []
        for number in range(4):
            for message in ([1], [2]):
                data = sign_tower(tower, I, [5], number, message)
                tried = [message] + [[number, k // 256, k % 256] for k in range(500)]
                found += [(number, tower_rows(public, text, data)) for text in tried if verify_tower(public, text, data)]
        self.assertGreater(len(found), 12)
        met = 0
        for (one, rows), (other, others) in itertools.permutations(found, 2):
            listed = {row[0] for row in others}
            if all(row[2] or row[0] in listed for row in rows):
                met += 1
                lists = listed | {row[0] for row in rows}
                digests = {tuple(tower.suite.digest(list(data))) for data in lists}
                self.assertTrue(one == other or len(digests) < len(lists))
        self.assertGreater(met, 4)


class Signers(Case):
    def test_from_each_place_to_the_end(self):
        for words, tower, seed in samples():
            public = known.public(words, I, seed)
            for start in range(tower.total + 1):
                signer = TowerSigner(tower, I, seed, start=start)
                for number in range(start, tower.total):
                    self.assertEqual((signer.next_number(), signer.left()), (number, tower.total - number))
                    message = [number, start]
                    data = signer.sign(message)
                    self.assertEqual(data, known.form(words, I, seed, number, message))
                    self.assertEqual(message, [number, start])
                    data.clear()
                self.assertEqual((signer.next_number(), signer.left()), (tower.total, 0))
                for _ in range(2):
                    self.raises(UsedUp, signer.sign, [1])
                    # That no place is left is looked for before the length of the message.
                    self.raises(UsedUp, signer.sign, [1] * 65537)
                self.assertEqual(self.pure(signer.public), public)
                self.assertEqual((signer.next_number(), signer.left()), (tower.total, 0))

    def test_the_default(self):
        _, tower, seed = next(samples())
        self.assertEqual(TowerSigner(tower, I, seed).next_number(), 0)

    def test_skipping(self):
        for words, tower, seed in samples():
            for start in range(tower.total):
                for count in range(tower.total - start):
                    signer = TowerSigner(tower, I, seed, start=start)
                    if start % 2 == 1:
                        signer.sign([1])
                        signer = TowerSigner(tower, I, seed, start=start)
                    self.assertIsNone(signer.skip(count))
                    self.assertEqual((signer.next_number(), signer.left()), (start + count, tower.total - start - count))
                    self.assertEqual(signer.sign([7]), known.form(words, I, seed, start + count, [7]))
                    signer.skip(signer.left())
                    self.raises(UsedUp, signer.sign, [7])

    def test_signing_between_skips(self):
        """A tree that was left behind is made again, and signs as before."""
        words, tower, seed = TOWERS[5], tower_of(TOWERS[5]), some_bytes(8, 3)
        for steps in ((0, 0, 1, 2), (3, 0, 0), (0, 3, 2), (1, 1, 1), (7,), (0, 6)):
            signer, number = TowerSigner(tower, I, seed), 0
            for count in steps:
                signer.skip(count)
                number += count
                self.assertEqual(signer.sign([number]), known.form(words, I, seed, number, [number]))
                number += 1

    def test_what_is_refused_uses_no_place(self):
        for words, tower, seed in samples():
            for start in range(tower.total):
                signer = TowerSigner(tower, I, seed, start=start)
                self.raises(OutOfRange, signer.sign, [1] * 65537)
                for count in (-1, tower.total - start + 1, tower.total - start + 2, 10 ** 5000, -10 ** 5000):
                    self.raises(OutOfRange, signer.skip, count)
                self.assertEqual((signer.next_number(), signer.left()), (start, tower.total - start))
                self.assertEqual(signer.sign([7]), known.form(words, I, seed, start, [7]))

    def test_wrong_starts(self):
        for _, tower, seed in samples():
            for start in (-1, tower.total + 1, tower.total + 2, 10 ** 5000):
                self.raises(OutOfRange, TowerSigner, tower, I, seed, start=start)

    def test_two_signers_beside_one_another(self):
        words, tower, seed = TOWERS[5], tower_of(TOWERS[5]), some_bytes(8, 3)
        other_seed = some_bytes(8, 4)
        one, other = TowerSigner(tower, I, seed), TowerSigner(tower, I, other_seed, start=3)
        for number in range(5):
            self.assertEqual(one.sign([1]), known.form(words, I, seed, number, [1]))
            self.assertEqual(other.sign([1]), known.form(words, I, other_seed, number + 3, [1]))

    def test_identifier_and_seed_are_copied(self):
        words, tower = TOWERS[2], tower_of(TOWERS[2])
        identifier, seed = list(I), some_bytes(4, 3)
        own = list(seed)
        signer = TowerSigner(tower, identifier, seed)
        for number in range(tower.total):
            identifier[0], seed[0] = number, number
            self.assertEqual(signer.sign([1]), known.form(words, I, own, number, [1]))
        self.assertEqual(signer.public(), known.public(words, I, own))

    def test_each_tree_is_made_once(self):
        """Point 138: for each level the tree that was used last is remembered."""
        for words, tower, seed in samples():
            made = []

            def leaf_value(kind, identifier, secret, q, old=module.leaf_value):
                made.append((tuple(identifier), q))
                return old(kind, identifier, secret, q)

            with unittest.mock.patch.object(module, "leaf_value", leaf_value):
                signer = TowerSigner(tower, I, seed)
                signer.public()
                for _ in range(tower.total):
                    signer.sign([1])
            self.assertEqual(len(set(made)), len(made))
            leaves = sum(known.total(words[:level]) * 2 ** words[level][2] for level in range(len(words)))
            self.assertEqual(len(made), leaves)


class AgainAfterACrash(Case):
    def test_a_tree_is_made_from_the_seed_and_the_place_alone(self):
        """Point 143: a signer that begins once more signs the same list at each place above."""
        for words, tower, seed in samples():
            public = tower_public(tower, I, seed)
            for start in range(tower.total):
                first, again = (TowerSigner(tower, I, seed, start=start).sign([message]) for message in (1, 2))
                self.assertEqual(read_tower(public, first)[0], read_tower(public, again)[0])
