"""Points 34 to 42: one-time keys, their signatures, forms and rows."""

import reference
from helpers import Case, changed, some_bytes
from sealgrove.coefficients import OneTime, lower
from sealgrove.chains import walk
from sealgrove.errors import Malformed, OutOfRange
from sealgrove.onetime import (
    accepts_once, candidate, chain_value, ends, lmots_rows, message_digits, one_time_key, read_once, read_once_key,
    sign_once, verify_once, write_once, write_once_key,
)
from sealgrove.suites import suite_named

I = list(range(200, 216))
LAST = 4294967295
KINDS = (("small-1", 1), ("small-1", 2), ("small-1", 4), ("small-1", 8), ("small-2", 2), ("small-3", 8), ("small-32", 1),
         ("sha-1", 4), ("sha-4", 4), ("sha-32", 2))
MESSAGES = ([], [0], [1, 2, 3], some_bytes(100))


def samples():
    """Kinds with a seed, a message and its signature."""
    for name, width in KINDS:
        kind = OneTime(suite_named(name), width)
        seed = some_bytes(kind.suite.size, 5)
        yield name, width, kind, seed


def bad_lists(size):
    return ([], [1] * (size - 1), [1] * (size + 1), [1] * (size + 16))


class Keys(Case):
    def test_values_of_chains(self):
        for name, width, kind, seed in samples():
            for chain in (0, 1, kind.p - 1):
                for step in (0, 1, kind.top):
                    known = reference.once_value(name, I, 7, seed, chain, step)
                    self.assertEqual(self.pure(chain_value, kind, I, 7, seed, chain, step), known)

    def test_chains_and_steps_that_are_none(self):
        for name, width, kind, seed in samples():
            for chain in (-1, kind.p, kind.p + 1, 65536):
                self.raises(OutOfRange, chain_value, kind, I, 7, seed, chain, 0)
            for step in (-1, kind.top + 1, 256):
                self.raises(OutOfRange, chain_value, kind, I, 7, seed, 0, step)

    def test_ends_and_keys(self):
        for name, width, kind, seed in samples():
            known = reference.once_ends(name, width, I, 7, seed)
            self.assertEqual(self.pure(ends, kind, I, 7, seed), known)
            self.assertEqual(len(known), kind.p)
            key = reference.digest(name, I + [0, 0, 0, 7, 128, 128] + [byte for end in known for byte in end])
            self.assertEqual(self.pure(one_time_key, kind, I, 7, seed), key)

    def test_places_at_their_bounds(self):
        kind = OneTime(suite_named("small-2"), 4)
        for q in (0, LAST):
            self.assertEqual(one_time_key(kind, I, q, [3, 4]), reference.once_key("small-2", 4, I, q, [3, 4]))


class Signing(Case):
    def test_signatures_against_their_parts(self):
        for name, width, kind, seed in samples():
            for message in MESSAGES:
                signature = self.pure(sign_once, kind, I, 7, seed, message)
                self.assertEqual(signature, reference.once_sign(name, width, I, 7, seed, message))
                self.assertIs(type(signature), tuple)
                randomizer, values = signature
                known = reference.once_digits(name, width, I, 7, randomizer, message)
                self.assertEqual(self.pure(message_digits, kind, I, 7, randomizer, message), known)
                self.assertEqual([len(value) for value in values], [kind.suite.size] * kind.p)

    def test_what_was_signed_is_accepted(self):
        for name, width, kind, seed in samples():
            key = one_time_key(kind, I, 7, seed)
            for message in MESSAGES:
                signature = sign_once(kind, I, 7, seed, message)
                self.assertEqual(self.pure(candidate, kind, I, 7, message, signature), key)
                self.assertIs(self.pure(accepts_once, kind, I, 7, key, message, signature), True)

    def check(self, name, width, kind, place, key, message, signature):
        """A signature is accepted exactly if the candidate is the key."""
        identifier, q = place
        known = reference.once_candidate(name, width, identifier, q, message, signature)
        self.assertEqual(candidate(kind, identifier, q, message, signature), known)
        self.assertIs(accepts_once(kind, identifier, q, key, message, signature), known == key)
        return known == key

    def test_what_was_changed(self):
        for name, width, kind, seed in samples():
            key = one_time_key(kind, I, 7, seed)
            randomizer, values = sign_once(kind, I, 7, seed, [1, 2, 3])
            same = (randomizer, values)
            accepted = []
            for place, other, message, signature in (
                    ((I, 7), key, [1, 2, 4], same),
                    ((I, 7), key, [1, 2], same),
                    ((I, 7), key, [1, 2, 3, 0], same),
                    ((I, 8), key, [1, 2, 3], same),
                    ((I, 7 + 2 ** 24), key, [1, 2, 3], same),
                    ((changed(I, 0), 7), key, [1, 2, 3], same),
                    ((changed(I, 15), 7), key, [1, 2, 3], same),
                    ((I, 7), changed(key, 0), [1, 2, 3], same),
                    ((I, 7), changed(key, -1 % len(key), 128), [1, 2, 3], same),
                    ((I, 7), key, [1, 2, 3], (changed(randomizer, 0), values)),
                    ((I, 7), key, [1, 2, 3], (randomizer, [changed(values[0], 0)] + values[1:])),
                    ((I, 7), key, [1, 2, 3], (randomizer, values[:-1] + [changed(values[-1], 0)])),
                    ((I, 7), key, [1, 2, 3], (randomizer, values[1:] + values[:1]))):
                accepted.append(self.check(name, width, kind, place, other, message, signature))
            if kind.suite.size > 3:
                self.assertFalse(any(accepted), name)

    def test_short_digests_accept_exactly_what_their_candidate_says(self):
        kind = OneTime(suite_named("small-1"), 8)
        key = one_time_key(kind, I, 7, [9])
        signature = sign_once(kind, I, 7, [9], [1])
        found = {self.check("small-1", 8, kind, (I, 7), key, [byte, 0], signature) for byte in range(256)}
        self.assertEqual(found, {True, False})

    def test_a_signature_is_made_from_the_seed_and_the_place_alone(self):
        kind = OneTime(suite_named("sha-4"), 4)
        one = sign_once(kind, I, 7, [1, 2, 3, 4], [1])
        self.assertEqual(sign_once(kind, I, 7, [1, 2, 3, 4], [2])[0], one[0])
        for other in (sign_once(kind, I, 7, [1, 2, 3, 5], [1]), sign_once(kind, I, 8, [1, 2, 3, 4], [1]),
                      sign_once(kind, changed(I, 3), 7, [1, 2, 3, 4], [1])):
            self.assertNotEqual(other[0], one[0])

    def test_long_messages(self):
        kind = OneTime(suite_named("small-1"), 8)
        message = [7] * 65536
        key = one_time_key(kind, I, 7, [9])
        signature = sign_once(kind, I, 7, [9], message)
        self.assertEqual(signature, reference.once_sign("small-1", 8, I, 7, [9], message))
        self.assertTrue(accepts_once(kind, I, 7, key, message, signature))


class Bounds(Case):
    """Every function refuses what is out of bounds."""

    def setUp(self):
        self.kind = OneTime(suite_named("small-2"), 4)
        self.signature = sign_once(self.kind, I, 7, [5, 6], [1])

    def calls(self, identifier=I, q=7, seed=(5, 6), key=(5, 6), message=(1,), randomizer=(1, 2), signature=None):
        kind, seed, key, message, randomizer = self.kind, list(seed), list(key), list(message), list(randomizer)
        signature = self.signature if signature is None else signature
        return {
            "chain_value": (chain_value, kind, identifier, q, seed, 0, 0),
            "ends": (ends, kind, identifier, q, seed),
            "one_time_key": (one_time_key, kind, identifier, q, seed),
            "sign_once": (sign_once, kind, identifier, q, seed, message),
            "message_digits": (message_digits, kind, identifier, q, randomizer, message),
            "candidate": (candidate, kind, identifier, q, message, signature),
            "accepts_once": (accepts_once, kind, identifier, q, key, message, signature),
            "write_once": (write_once, kind, signature),
            "write_once_key": (write_once_key, kind, identifier, q, key),
        }

    def refused(self, names, **named):
        calls = self.calls(**named)
        for name in names.split():
            with self.subTest(name=name, **named):
                self.raises(OutOfRange, *calls[name])

    PLACED = "chain_value ends one_time_key sign_once message_digits candidate accepts_once write_once_key"

    def test_all_is_well_within_the_bounds(self):
        for call in self.calls().values():
            self.pure(*call)
        for call in self.calls(q=0).values():
            self.pure(*call)
        for call in self.calls(q=LAST).values():
            self.pure(*call)

    def test_identifiers(self):
        for identifier in bad_lists(16):
            self.refused(self.PLACED, identifier=identifier)

    def test_numbers(self):
        for q in (-1, LAST + 1, 2 ** 64):
            self.refused(self.PLACED, q=q)

    def test_seeds_keys_and_randomizers(self):
        for data in bad_lists(2):
            self.refused("chain_value ends one_time_key sign_once", seed=data)
            self.refused("accepts_once write_once_key", key=data)
            self.refused("message_digits", randomizer=data)

    def test_messages(self):
        self.refused("sign_once message_digits candidate accepts_once", message=[0] * 65537)

    def test_signatures(self):
        randomizer, values = self.signature
        p = self.kind.p
        for signature in (
                (), (randomizer,), (randomizer, values, []), [randomizer, values], (randomizer, tuple(values)),
                (tuple(randomizer), values), (values, randomizer), ([], values), ([1], values), ([1, 2, 3], values),
                ([1, 256], values), ([1, -1], values), ([1, True], values), ([1, "2"], values), (None, values),
                (randomizer, None), (randomizer, []), (randomizer, values[:-1]), (randomizer, values + [[1, 2]]),
                (randomizer, [[1]] * p), (randomizer, [[1, 2, 3]] * p), (randomizer, values[:-1] + [[]]),
                (randomizer, values[:-1] + [[1, 256]]), (randomizer, values[:-1] + [(1, 2)]),
                (randomizer, values[:-1] + [None]), (randomizer, [[1]] + values[1:]), (randomizer, [1] * p), 7, "ab"):
            self.refused("candidate accepts_once write_once", signature=signature)


class Handed(Case):
    def test_two_signatures_of_one_place(self):
        """Points 36 and 37: from two signatures, others can be made where digits are at least the lower ones."""
        kind = OneTime(suite_named("small-1"), 4)
        key = one_time_key(kind, I, 7, [5])
        signatures = [sign_once(kind, I, 7, [5], message) for message in ([1], [2])]
        randomizer = signatures[0][0]
        digits = [message_digits(kind, I, 7, randomizer, message) for message in ([1], [2])]
        self.assertTrue(lower(digits[0], digits[1]) and lower(digits[1], digits[0]))
        floor = [min(both) for both in zip(*digits)]
        made = 0
        for byte in range(256):
            wanted = message_digits(kind, I, 7, randomizer, [byte, 1])
            if lower(wanted, floor):
                continue
            values = []
            for chain in range(kind.p):
                best = 0 if digits[0][chain] == floor[chain] else 1
                self.assertEqual(signatures[best][1][chain], chain_value(kind, I, 7, [5], chain, floor[chain]))
                values.append(walk(kind.suite, I, 7, chain, floor[chain], wanted[chain], signatures[best][1][chain]))
            self.assertTrue(accepts_once(kind, I, 7, key, [byte, 1], (randomizer, values)))
            made += 1
        self.assertGreater(made, 0)


class Forms(Case):
    def test_forms_of_signatures(self):
        for name, width, kind, seed in samples():
            signature = sign_once(kind, I, 7, seed, [1, 2, 3])
            data = self.pure(write_once, kind, signature)
            parts = reference.num(kind.code, 4) + signature[0] + [byte for value in signature[1] for byte in value]
            self.assertEqual(data, parts)
            self.assertEqual(len(data), 4 + kind.suite.size * (kind.p + 1))
            self.assertEqual(self.pure(read_once, kind, data), signature)
            self.assertIs(type(read_once(kind, data)), tuple)

    def test_forms_of_keys(self):
        for name, width, kind, seed in samples():
            for q in (0, 7, LAST):
                key = some_bytes(kind.suite.size)
                data = self.pure(write_once_key, kind, I, q, key)
                self.assertEqual(data, reference.num(kind.code, 4) + I + reference.num(q, 4) + key)
                self.assertEqual(len(data), 24 + kind.suite.size)
                found, identifier, number, read = self.pure(read_once_key, data)
                self.assertIs(type(found), OneTime)
                self.assertEqual((found.code, found.suite.name, found.width), (kind.code, name, width))
                self.assertEqual((identifier, number, read), (I, q, key))
                self.assertEqual(write_once_key(found, identifier, number, read), data)

    def test_any_values_of_the_right_length_are_a_form(self):
        kind = OneTime(suite_named("small-2"), 2)
        for byte in (0, 255):
            data = reference.num(kind.code, 4) + [byte] * (2 * 12)
            self.assertEqual(read_once(kind, data), ([byte] * 2, [[byte] * 2] * 11))
            self.assertEqual(write_once(kind, read_once(kind, data)), data)

    def test_lists_that_are_no_form_of_a_signature(self):
        kinds = [OneTime(suite_named(name), width) for name, width in KINDS]
        for name, width, kind, seed in samples():
            data = write_once(kind, sign_once(kind, I, 7, seed, [1]))
            for wrong in (
                    [], data[:3], data[:4], data[:-1], data[1:], data + [0], data[:5] + data[6:],
                    data[:5] + [0] + data[5:], changed(data, 0), changed(data, 1), changed(data, 2),
                    changed(data, 3), data[:-1] + [256], data[:-1] + [-1], data[:-1] + [True], data[:4] * 2,
                    [0] * len(data), data + data):
                self.raises(Malformed, read_once, kind, wrong)
            for other in kinds:
                if other.code != kind.code:
                    self.raises(Malformed, read_once, other, data)

    def test_lists_that_are_no_form_of_a_key(self):
        kind = OneTime(suite_named("small-3"), 4)
        data = write_once_key(kind, I, 7, [1, 2, 3])
        for cut in range(len(data)):
            self.raises(Malformed, read_once_key, data[:cut])
            self.raises(Malformed, read_once_key, data[:cut] + data[cut + 1:])
        for wrong in (data + [0], data[1:], data + data, [0] + data, data[:-1] + [256], [0] * 24, [0] * 56,
                      [0, 0, 0, 5] + [0] * 52, [0, 0, 0, 1] + [0] * 51, [0, 0, 0, 1] + [0] * 53, [255] * 27):
            self.raises(Malformed, read_once_key, wrong)
        for code in (0, 5, 2 ** 32 - 1, kind.code + 1, kind.code - 1, kind.code + 65536, kind.code - 256,
                     3758096384 + 256 * 32 + 1):
            self.raises(Malformed, read_once_key, reference.num(code, 4) + data[4:])
        # sha-32 has a short code; the long one that it would have is none.
        long = reference.num(3758096384 + 256 * 32 + 4, 4)
        self.raises(Malformed, read_once_key, long + I + [0] * 36)
        self.assertEqual(read_once_key([0, 0, 0, 3] + I + [0] * 36)[0].width, 4)

    def test_forms_are_different_for_different_signatures(self):
        kind = OneTime(suite_named("small-1"), 8)
        forms = {tuple(write_once(kind, ([a], [[b], [c]]))) for a in range(6) for b in range(6) for c in range(6)}
        self.assertEqual(len(forms), 216)


class Verifying(Case):
    def test_what_was_signed(self):
        for name, width, kind, seed in samples():
            form = write_once_key(kind, I, 7, one_time_key(kind, I, 7, seed))
            data = write_once(kind, sign_once(kind, I, 7, seed, [1, 2, 3]))
            self.assertIs(self.pure(verify_once, form, [1, 2, 3], data), True)

    def test_what_was_changed(self):
        """Each byte of the form and of the signature counts, or the candidate says that it does not."""
        name, width = "small-2", 4
        kind = OneTime(suite_named(name), width)
        key = one_time_key(kind, I, 7, [5, 6])
        form = write_once_key(kind, I, 7, key)
        data = write_once(kind, sign_once(kind, I, 7, [5, 6], [1]))
        for at in range(4, len(data)):
            wrong = changed(data, at)
            values = [wrong[k:k + 2] for k in range(6, len(wrong), 2)]
            known = reference.once_candidate(name, width, I, 7, [1], (wrong[4:6], values))
            self.assertIs(verify_once(form, [1], wrong), known == key)
        for at in list(range(4)) + [24, 25]:
            self.assertIs(verify_once(changed(form, at), [1], data), False)
        for at in range(4):
            self.assertIs(verify_once(form, [1], changed(data, at)), False)

    def test_lists_that_are_no_forms(self):
        kind = OneTime(suite_named("sha-4"), 8)
        form = write_once_key(kind, I, 7, one_time_key(kind, I, 7, [1, 2, 3, 4]))
        data = write_once(kind, sign_once(kind, I, 7, [1, 2, 3, 4], [1]))
        for function, known in ((verify_once, False), (lmots_rows, None)):
            for wrong in ([], [0], form[:-1], form + [0], [0] * 28, data, form[:4]):
                self.assertIs(function(wrong, [1], data), known)
            for wrong in ([], [0], data[:-1], data + [0], form, data[:4], [0] * len(data)):
                self.assertIs(function(form, [1], wrong), known)
            self.assertIs(function([], [1], []), known)
            self.assertIs(function(form, [2], data), known)
            self.assertIs(function(form, [], data), known)
            self.assertIs(function(changed(form, 27), [1], data), known)
            # A signature of another width, whose own key would accept it.
            other = OneTime(suite_named("sha-4"), 4)
            signed = write_once(other, sign_once(other, I, 7, [1, 2, 3, 4], [1]))
            self.assertIs(function(form, [1], signed), known)

    def test_messages_that_are_too_long(self):
        for function in (verify_once, lmots_rows):
            self.raises(OutOfRange, function, [], [0] * 65537, [])
            self.raises(OutOfRange, function, [0] * 28, [0] * 70000, [1])
        kind = OneTime(suite_named("small-1"), 8)
        form = write_once_key(kind, I, 7, one_time_key(kind, I, 7, [5]))
        data = write_once(kind, sign_once(kind, I, 7, [5], [0] * 65536))
        self.assertIs(verify_once(form, [0] * 65536, data), True)
        self.raises(OutOfRange, verify_once, form, [0] * 65537, data)
        self.raises(OutOfRange, lmots_rows, form, [0] * 65537, data)


class Rows(Case):
    def test_rows_against_their_parts(self):
        for name, width, kind, seed in samples():
            key = one_time_key(kind, I, 7, seed)
            form = write_once_key(kind, I, 7, key)
            for message in MESSAGES:
                signature = sign_once(kind, I, 7, seed, message)
                rows = self.pure(lmots_rows, form, message, write_once(kind, signature))
                self.assertEqual(rows, reference.once_rows(name, width, I, 7, message, signature))
                self.assertIs(type(rows), list)
                self.hangs(name, key, rows)

    def hangs(self, name, key, rows):
        """Each digest but the first and the last one is an item of a row before it."""
        shown = {tuple(key)}
        for data, items, loose in rows[:-1]:
            self.assertIn(tuple(reference.digest(name, list(data))), shown)
            self.assertIs(loose, False)
            shown |= set(items)
        self.assertEqual((rows[-1][1], rows[-1][2]), ((), True))
        self.assertEqual(reference.digest(name, list(rows[0][0])), key)

    def test_no_rows_at_the_top(self):
        """A chain whose digit is top has no step lists."""
        kind = OneTime(suite_named("small-1"), 8)
        form = write_once_key(kind, I, 7, one_time_key(kind, I, 7, [5]))
        randomizer = sign_once(kind, I, 7, [5], [])[0]
        message = next([a, b] for a in range(256) for b in range(256)
                       if message_digits(kind, I, 7, randomizer, [a, b]) == [255, 0])
        rows = lmots_rows(form, message, write_once(kind, sign_once(kind, I, 7, [5], message)))
        self.assertEqual(len(rows), 2 + 255)
        self.assertEqual({row[0][20:22] for row in rows[1:-1]}, {(0, 1)})
        self.assertEqual([row[0][22] for row in rows[1:-1]], list(range(254, -1, -1)))

    def test_same_rows_mean_one_digest(self):
        """Point 42: among many accepted signatures of one key, honest and forged ones."""
        kind = OneTime(suite_named("small-1"), 4)
        key = one_time_key(kind, I, 7, [5])
        form = write_once_key(kind, I, 7, key)
        accepted = []
        for byte in range(4):
            data = write_once(kind, sign_once(kind, I, 7, [5], [byte]))
            for message in [[byte]] + [[a, b] for a in range(3) for b in range(256)]:
                rows = lmots_rows(form, message, data)
                if rows is not None:
                    accepted.append((rows, data))
        self.assertGreater(len(accepted), 4)
        equal = 0
        for rows, data in accepted:
            lists = {row[0] for row in rows[:-1]}
            for others, shown in accepted:
                if lists <= {row[0] for row in others}:
                    one, other = (kind.suite.digest(list(found[-1][0])) for found in (rows, others))
                    self.assertEqual(one, other)
                    self.assertEqual(data[5:], shown[5:])
                    equal += data != shown or rows != others
        self.assertGreater(equal, 0)
