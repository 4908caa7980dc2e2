"""Points 145, 148 to 150, 158 and 159: stateless keys, signatures and their rows."""

import itertools

import reference
import reference_stateless as known
from helpers import Case, changed, shorter_and_longer, some_bytes
from sealgrove.coefficients import lower
from sealgrove.errors import Malformed, OutOfRange
from sealgrove.schemes import Stateless
from sealgrove.stateless import (
    accepts_raw, key_holds, public_of, shown_leaves, sign_raw, stateless_key, stateless_rows, things_of,
)
from sealgrove.suites import suite_named

SCHEMES = (("small-1", 4, 3, 3, 2, 2), ("small-3", 4, 2, 2, 1, 3), ("sha-3", 4, 1, 3, 2, 1), ("small-16", 1, 2, 1, 1, 2))
MESSAGES = ([], [1, 2, 3], list(range(100)))


def samples():
    """Schemes as words and as objects, with a secret key."""
    for words in SCHEMES:
        n = reference.size(words[0])
        key = known.key(words, some_bytes(n, 1), some_bytes(n, 2), some_bytes(n, 3))
        yield words, Stateless(suite_named(words[0]), *words[1:]), key


class Keys(Case):
    def test_keys(self):
        for words, scheme, key in samples():
            n = scheme.suite.size
            lists = [key[:n], key[n:2 * n], key[2 * n:3 * n]]
            self.assertEqual(self.pure(stateless_key, scheme, *lists), key)
            self.assertEqual((len(key), len(key[2 * n:])), (scheme.secret_size, scheme.public_size))
            self.assertEqual(self.pure(public_of, scheme, key), key[2 * n:])
            self.assertIs(self.pure(key_holds, scheme, key), True)

    def test_lists_of_other_sizes(self):
        for _, scheme, key in samples():
            n = scheme.suite.size
            for at in range(3):
                for count in (0, n - 1, n + 1, 4 * n):
                    lists = [[1] * (count if k == at else n) for k in range(3)]
                    self.raises(OutOfRange, stateless_key, scheme, *lists)

    def test_a_root_that_is_changed(self):
        for words, scheme, key in samples():
            n = scheme.suite.size
            for at in range(3 * n, 4 * n):
                self.assertIs(key_holds(scheme, changed(key, at)), False)
            for at in range(n, 2 * n):
                self.assertIs(key_holds(scheme, changed(key, at)), True)
            for at in (0, 2 * n):
                other = changed(key, at)
                root = known.layer_root(words, other[2 * n:3 * n], other[:n], (words[5] - 1, 0))
                self.assertIs(key_holds(scheme, other), root == key[3 * n:])

    def test_keys_of_other_sizes(self):
        for _, scheme, key in samples():
            for other in ([], key[:-1], key + [0], key[scheme.public_size:]):
                self.raises(Malformed, public_of, scheme, other)
                self.raises(Malformed, key_holds, scheme, other)
                for extra in (None, [1] * scheme.suite.size, []):
                    self.raises(Malformed, sign_raw, scheme, other, [1], extra)


class Signing(Case):
    def test_signatures(self):
        for words, scheme, key in samples():
            n, public = scheme.suite.size, public_of(scheme, key)
            for message in MESSAGES:
                for extra in (None, some_bytes(n, 9), key[2 * n:3 * n]):
                    signature = self.pure(sign_raw, scheme, key, message, extra)
                    parts = known.sign_parts(words, key, message, extra)
                    self.assertEqual(signature, known.flat(parts))
                    self.assertEqual(len(signature), scheme.signature_size)
                    self.assertIs(self.pure(accepts_raw, scheme, public, message, signature), True)
                # Without an extra, the seed is the extra.
                self.assertEqual(sign_raw(scheme, key, message), sign_raw(scheme, key, message, key[2 * n:3 * n]))
                self.assertEqual(sign_raw(scheme, key, message), sign_raw(scheme, key, message, extra=None))

    def test_extras_of_other_sizes(self):
        for _, scheme, key in samples():
            n = scheme.suite.size
            for extra in ([], [1] * (n - 1), [1] * (n + 1)):
                self.raises(OutOfRange, sign_raw, scheme, key, [1], extra)

    def test_great_messages(self):
        """No error is named for a message of more than 66000 bytes."""
        _, scheme, key = next(samples())
        for count in (65536, 66000, 66001):
            message = some_bytes(count)
            signature = sign_raw(scheme, key, message)
            self.assertIs(accepts_raw(scheme, public_of(scheme, key), message, signature), True)


class Checking(Case):
    def test_a_changed_byte(self):
        for words, scheme, key in samples():
            public, message = public_of(scheme, key), [1, 2, 3]
            signature = sign_raw(scheme, key, message)
            step = scheme.signature_size // 60 + 1
            for at in range(0, scheme.signature_size, step):
                other = changed(signature, at)
                parts = cut_parts(scheme, other)
                signed, _ = known.checked(words, public, message, parts)
                accepted = signed[-1] == public[scheme.suite.size:]
                self.assertIs(accepts_raw(scheme, public, message, other), accepted)
                if scheme.suite.size > 1:
                    self.assertFalse(accepted)

    def test_another_message_or_public_key(self):
        for words, scheme, key in samples():
            if scheme.suite.size > 1:
                public, message = public_of(scheme, key), [1, 2, 3]
                signature = sign_raw(scheme, key, message)
                for other in ([], [1, 2], [1, 2, 4], [1, 2, 3, 0]):
                    self.assertIs(accepts_raw(scheme, public, other, signature), False)
                for at in range(len(public)):
                    self.assertIs(accepts_raw(scheme, changed(public, at), message, signature), False)

    def test_lists_of_another_length(self):
        for _, scheme, key in samples():
            public = public_of(scheme, key)
            signature = sign_raw(scheme, key, [1])
            for data in list(shorter_and_longer(signature)) + [[]]:
                self.assertIs(accepts_raw(scheme, public, [1], data), False)
                self.assertIsNone(stateless_rows(scheme, public, [1], data))
                self.raises(Malformed, things_of, scheme, public, [1], data)
                self.raises(Malformed, shown_leaves, scheme, public, [1], data)

    def test_public_keys_of_other_sizes(self):
        for _, scheme, key in samples():
            public = public_of(scheme, key)
            signature = sign_raw(scheme, key, [1])
            for other in ([], public[:-1], public + [0], key):
                for data in (signature, []):
                    for function in (accepts_raw, things_of, shown_leaves, stateless_rows):
                        self.raises(Malformed, function, scheme, other, [1], data)


def cut_parts(scheme, data):
    """The parts of a signature, cut out by the words of point 148."""
    n, a, p = scheme.suite.size, scheme.a, scheme.one_time.p
    values = [data[at:at + n] for at in range(0, len(data), n)]
    rest = iter(values)
    found = next(rest)
    shown = [(next(rest), [next(rest) for _ in range(a)]) for _ in range(scheme.k)]
    hyper = [([next(rest) for _ in range(p)], [next(rest) for _ in range(scheme.rise)]) for _ in range(scheme.layers)]
    return found, shown, hyper


class Things(Case):
    def test_things_and_shown_leaves(self):
        for words, scheme, key in samples():
            public = public_of(scheme, key)
            for message in MESSAGES:
                signature = sign_raw(scheme, key, message)
                # They need not be accepted.
                for data in (signature, changed(signature, 0), changed(signature, scheme.signature_size - 1),
                             some_bytes(scheme.signature_size)):
                    parts = cut_parts(scheme, data)
                    picked, tree, leaf = known.message_place(words, public, message, parts[0])
                    signed, _ = known.checked(words, public, message, parts)
                    places = known.hyper_places(words, (tree, leaf))
                    things = [(place, tuple(text)) for place, text in zip(places, signed)]
                    found = self.pure(things_of, scheme, public, message, data)
                    self.assertEqual(found, things[::-1])
                    self.assertTrue(all(type(thing) is tuple and type(thing[0]) is tuple for thing in found))
                    found = self.pure(shown_leaves, scheme, public, message, data)
                    self.assertEqual(found, (tree, leaf, known.picks(words, picked)))
                    self.assertIs(type(found), tuple)

    def test_the_data_of_the_layers(self):
        for words, scheme, key in samples():
            n, public = scheme.suite.size, public_of(scheme, key)
            things = things_of(scheme, public, [1], sign_raw(scheme, key, [1]))
            tree, leaf, _ = shown_leaves(scheme, public, [1], sign_raw(scheme, key, [1]))
            self.assertEqual([place[0] for place, _ in things], list(range(scheme.layers))[::-1])
            self.assertEqual(things[-1][0], (0, tree, leaf))
            seed, secret = public[:n], key[:n]
            self.assertEqual(things[-1][1], tuple(known.forest_key(words, seed, secret, (tree, leaf))))
            for (_, data), (place, _) in zip(things, things[1:]):
                self.assertEqual(data, tuple(known.layer_root(words, seed, secret, place[:2])))


class Rows(Case):
    def test_rows(self):
        for words, scheme, key in samples():
            public = public_of(scheme, key)
            for message in MESSAGES:
                signature = sign_raw(scheme, key, message)
                rows = self.pure(stateless_rows, scheme, public, message, signature)
                _, wanted = known.checked(words, public, message, cut_parts(scheme, signature))
                self.assertEqual(rows, wanted)
                self.hang_together(scheme.suite, rows, public[scheme.suite.size:])
                loose = [at for at, row in enumerate(rows) if row[2]]
                self.assertEqual(len(loose), scheme.layers)
                # The last one is the roots list; the others are the lists of the roots of the lower layers.
                self.assertEqual([(rows[at][0][64], rows[at][0][73]) for at in loose],
                                 [(layer, 2) for layer in range(scheme.layers - 2, -1, -1)] + [(0, 4)])
                # The digest of each loose row is signed by the layer above it.
                things = things_of(scheme, public, message, signature)
                self.assertEqual([tuple(scheme.suite.digest(list(rows[at][0]))) for at in loose],
                                 [data for _, data in things])

    def test_the_leaves_that_are_shown(self):
        for _, scheme, key in samples():
            public = public_of(scheme, key)
            signature = sign_raw(scheme, key, [1, 2])
            _, _, picks = shown_leaves(scheme, public, [1, 2], signature)
            leaves = [row[0] for row in stateless_rows(scheme, public, [1, 2], signature)
                      if row[0][73] == 3 and row[0][78:82] == (0, 0, 0, 0)]
            self.assertEqual([reference.number(leaf[82:86]) for leaf in leaves], picks)

    def test_what_is_not_accepted(self):
        for _, scheme, key in samples():
            if scheme.suite.size > 1:
                public = public_of(scheme, key)
                signature = sign_raw(scheme, key, [1])
                self.assertIsNone(stateless_rows(scheme, public, [2], signature))
                for at in (0, scheme.signature_size // 2, scheme.signature_size - 1):
                    self.assertIsNone(stateless_rows(scheme, public, [1], changed(signature, at)))
                self.assertIsNone(stateless_rows(scheme, changed(public, 0), [1], signature))

    def test_two_accepted_signatures(self):
        """Point 159, with digests of one byte, so that changed signatures are often accepted."""
        words, scheme, key = next(samples())
        public, digest = public_of(scheme, key), scheme.suite.digest
        signature = sign_raw(scheme, key, [7])
        pairs = [([message], sign_raw(scheme, key, [message])) for message in range(12)]
        for at in range(1, scheme.signature_size):
            pairs += [([7], changed(signature, at, by)) for by in range(1, 256, 5)]
        pairs = [pair for pair in pairs if accepts_raw(scheme, public, *pair)]
        self.assertGreater(len(pairs), 20)
        things = [dict(things_of(scheme, public, *pair)) for pair in pairs]
        rows = [stateless_rows(scheme, public, *pair) for pair in pairs]
        met = {"alike": 0, "unlike": 0}
        for (one, here), (other, there) in itertools.combinations(list(zip(rows, things)), 2):
            self.assertEqual(digest(list(one[0][0])), digest(list(other[0][0])))
            for place in set(here) & set(there):
                if here[place] == there[place]:
                    met["alike"] += 1
                else:
                    met["unlike"] += 1
                    first, second = (scheme.one_time.digits(list(side[place])) for side in (here, there))
                    self.assertTrue(lower(first, second) and lower(second, first))
        self.assertGreater(min(met.values()), 0, met)
