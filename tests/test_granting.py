"""Points 235 to 244: chains of warrants."""

import random

import reference_granting as known
from helpers import Case, changed, kind_of, some_bytes
from sealgrove.accusing import accuse_tower
from sealgrove.errors import Malformed, OutOfRange
from sealgrove.granting import (
    carries, days_of, fault, pairs_of, right_of, text_entry, withdrawals_in,
)
from sealgrove.heads import accepts_consistency
from sealgrove.judging import judge_tower
from sealgrove.logbook import Logbook
from sealgrove.suites import suite_named
from sealgrove.tower import Tower, sign_tower, tower_public, verify_tower

DAY = 2 ** 32 - 1
LAST = 2 ** 64 - 1


class Key:
    """A tower that signs texts at places."""

    def __init__(self, number, name="small-2", heights=(1, 1)):
        self.tower = Tower([kind_of(name, 1, height) for height in heights])
        self.identifier, self.seed = some_bytes(7, number) + [0] * 9, some_bytes(self.tower.suite.size, number)
        self.public = tower_public(self.tower, self.identifier, self.seed)

    def sign(self, place, text):
        return sign_tower(self.tower, self.identifier, self.seed, place, text)


KEYS = [Key(number) for number in range(10)]
MESSAGE = [104, 105, 33]


def warrant_for(i, first=10, last=20, low=0, high=3, depth=7, scope=()):
    """A warrant for the key with this number."""
    return tuple(KEYS[i].public), first, last, low, high, depth, tuple(scope)


def chain_of(warrants, places=None):
    """The links of warrants for the keys 1, 2, .. each of which is signed by the key before."""
    return [(warrant, KEYS[i].sign(places[i] if places else 1, known.warrant_form(warrant)))
            for i, warrant in enumerate(warrants)]


def plain_chain(count, **named):
    return chain_of([warrant_for(i + 1, **named) for i in range(count)])


def signed(i, message=MESSAGE, place=2):
    return KEYS[i].sign(place, [77] + message)


def withdrawn(chain, i, day, place=3):
    withdrawal = (chain[i][0], day)
    return withdrawal, KEYS[i].sign(place, known.withdrawal_form(withdrawal))


class Granting(Case):
    def check(self, chain, message, signature, withdrawals, days=(), root=None):
        """All functions against the points; return the first fault of the first day."""
        root = KEYS[0].public if root is None else root
        days = list(days) or [15]
        told = []
        for day in days:
            found = known.faults(root, chain, message, signature, withdrawals, day)
            told.append(found[0] if found else None)
            self.assertEqual(fault(root, chain, message, signature, withdrawals, day), told[-1])
            self.assertIs(carries(root, chain, message, signature, withdrawals, day), told[-1] is None)
        right = known.right(root, chain, withdrawals)
        self.assertEqual(right_of(root, chain, withdrawals), right)
        good = known.counts(root, chain, len(chain), [77] + message, signature)
        if chain:
            # Point 239.
            for day, found in zip(days, told):
                wanted = (right is not None and right[1] <= day <= right[2] and message[:len(right[6])] == list(right[6])
                          and good)
                self.assertIs(found is None, wanted)
            fits = right is not None and message[:len(right[6])] == list(right[6]) and good
            spread = right[1:3] if fits else None
        else:
            spread = (0, DAY) if good else None
        self.assertEqual(days_of(root, chain, message, signature, withdrawals), spread)
        # Point 240.
        for day, found in zip(days, told):
            if 0 <= day <= DAY:
                self.assertIs(found is None, spread is not None and spread[0] <= day <= spread[1])
        return told[0]


class Chains(Granting):
    def test_chains_of_each_length(self):
        for count in range(9):
            chain = plain_chain(count)
            self.assertIsNone(self.check(chain, MESSAGE, signed(count), [], (15, 10, 20, 9, 21, 0, DAY)))
            self.assertEqual(days_of(KEYS[0].public, chain, MESSAGE, signed(count), []),
                             (10, 20) if count else (0, DAY))

    def test_nothing_is_shared(self):
        chain = plain_chain(2)
        args = (KEYS[0].public, chain, MESSAGE, signed(2), [withdrawn(chain, 1, 18)], 15)
        self.assertIsNone(self.pure(fault, *args))
        self.assertIs(self.pure(carries, *args), True)
        self.assertEqual(self.pure(days_of, *args[:5]), (10, 17))
        self.assertEqual(self.pure(right_of, *args[:2], args[4]), (tuple(KEYS[2].public), 10, 17, 0, 3, 6, ()))
        self.pure(pairs_of, *args[:4])

    def test_more_than_eight_links(self):
        warrant = warrant_for(1)
        for count in (9, 10, 20):
            chain = [(warrant, [])] * count
            for call, args in ((fault, (MESSAGE, [], [], 15)), (carries, (MESSAGE, [], [], 15)), (right_of, ([],)),
                               (days_of, (MESSAGE, [], [])), (pairs_of, (MESSAGE, []))):
                self.raises(OutOfRange, call, KEYS[0].public, chain, *args)

    def test_the_empty_chain(self):
        for message in ([], MESSAGE):
            signature = signed(0, message)
            self.assertIsNone(self.check([], message, signature, [], (-1, 0, DAY, DAY + 1, 10 ** 5000, -10 ** 5000)))
            self.assertEqual(self.check([], message + [1], signature, []), ("signature", 0))
            self.assertEqual(self.check([], message, [], []), ("signature", 0))
        self.assertIsNone(right_of(KEYS[0].public, [], []))

    def test_days_of_every_size(self):
        chain = plain_chain(1, first=0, last=DAY)
        for day, word in ((0, None), (DAY, None), (-1, ("day", 0)), (DAY + 1, ("day", 0)), (10 ** 5000, ("day", 0)),
                          (-10 ** 5000, ("day", 0))):
            self.assertEqual(self.check(chain, MESSAGE, signed(1), [], (day,)), word)


class Faults(Granting):
    def test_signatures(self):
        for count in (1, 2, 4, 8):
            chain = plain_chain(count)
            for i in range(count):
                for wrong in ([], chain[i][1][:-1], changed(chain[i][1], len(chain[i][1]) - 1),
                              KEYS[i].sign(1, [77] + known.warrant_form(chain[i][0])),
                              KEYS[(i + 1) % 9].sign(1, known.warrant_form(chain[i][0]))):
                    other = chain[:i] + [(chain[i][0], wrong)] + chain[i + 1:]
                    found = known.faults(KEYS[0].public, other, MESSAGE, signed(count), [], 15)
                    if found:
                        self.assertEqual(self.check(other, MESSAGE, signed(count), []), ("signature", i))
            self.assertEqual(self.check(chain, MESSAGE, [], []), ("signature", count))
            self.assertEqual(self.check(chain, MESSAGE, KEYS[count].sign(1, MESSAGE), []), ("signature", count))
            self.assertEqual(self.check(chain, MESSAGE, signed(count - 1), []), ("signature", count))

    def test_subjects_and_roots_that_are_no_keys(self):
        chain = plain_chain(2)
        for root in ([], [1], KEYS[0].public[:-1], KEYS[0].public + [0], KEYS[5].public):
            self.assertEqual(self.check(chain, MESSAGE, signed(2), [], root=root), ("signature", 0))
            self.assertEqual(self.check([], MESSAGE, signed(0), [], root=root), ("signature", 0))
        for subject in ((), (1, 2), (0,) * 1000, tuple(KEYS[1].public[:-1])):
            warrant = (subject,) + chain[0][0][1:]
            link = (warrant, KEYS[0].sign(1, known.warrant_form(warrant)))
            self.assertEqual(self.check([link, chain[1]], MESSAGE, signed(2), []), ("signature", 1))
            self.assertEqual(self.check([link], MESSAGE, signed(1), []), ("signature", 1))
            self.assertEqual(right_of(KEYS[0].public, [link], []), warrant)

    def test_places_at_the_bounds(self):
        for low, high in ((0, 3), (1, 2), (2, 2), (3, LAST), (0, 0), (4, 5), (LAST, LAST)):
            for place in range(4):
                inside = low <= place <= high
                warrants = [warrant_for(1, low=low, high=high), warrant_for(2)]
                chain = chain_of(warrants, [0, place])
                self.assertEqual(self.check(chain, MESSAGE, signed(2), []), None if inside else ("place", 1))
                self.assertEqual(self.check(chain[:1], MESSAGE, signed(1, place=place), []),
                                 None if inside else ("place", 1))
                # The root may sign at any place.
                self.assertIsNone(self.check(chain_of([warrant_for(1)], [place]), MESSAGE, signed(1), []))

    def test_depths(self):
        for count in (1, 2, 3, 8):
            for i in range(count):
                for depth in range(8):
                    warrants = [warrant_for(k + 1, depth=depth if k == i else 7) for k in range(count)]
                    if depth in (0, count - 2 - i, count - 1 - i, 7):
                        wanted = ("depth", i) if depth < count - 1 - i else None
                        self.assertEqual(self.check(chain_of(warrants), MESSAGE, signed(count), []), wanted)

    def test_scopes(self):
        for scopes, message, wanted in (
                (((), (104,)), MESSAGE, None), (((104,), (104, 105)), MESSAGE, None), (((104, 105), (104,)), MESSAGE, None),
                (((104, 105, 33), ()), MESSAGE, None), (((105,), ()), MESSAGE, ("scope", 0)),
                (((), (105,)), MESSAGE, ("scope", 1)), (((104, 105, 33, 0), ()), MESSAGE, ("scope", 0)),
                (((104,), (105,)), MESSAGE, ("scope", 1)), (((104,), (104, 106)), MESSAGE, ("scope", 1)),
                (((), (1,)), [], ("scope", 1)), (((0,) * 64, (0,) * 64), [0] * 64, None),
                (((0,) * 64, ()), [0] * 63, ("scope", 0)), (((77,), ()), MESSAGE, ("scope", 0))):
            chain = chain_of([warrant_for(1, scope=scopes[0]), warrant_for(2, scope=scopes[1])])
            self.assertEqual(self.check(chain, message, signed(2, message), []), wanted)

    def test_days_near_the_bounds(self):
        for bounds in (((10, 20), (12, 18)), ((12, 18), (10, 20)), ((10, 14), (14, 20)), ((10, 13), (14, 20)),
                       ((0, DAY), (0, 0)), ((DAY, DAY), (0, DAY)), ((5, 5), (5, 5))):
            chain = chain_of([warrant_for(i + 1, first=first, last=last) for i, (first, last) in enumerate(bounds)])
            days = sorted({day + by for pair in bounds for day in pair for by in (-1, 0, 1)})
            for day in days:
                wanted = [("day", i) for i, (first, last) in enumerate(bounds) if not first <= day <= last]
                self.assertEqual(self.check(chain, MESSAGE, signed(2), [], (day,)), wanted[0] if wanted else None)

    def test_withdrawals_that_strike(self):
        for count in (1, 2, 3):
            chain = plain_chain(count)
            for i in range(count):
                for day in (0, 9, 10, 11, 15, 20, 21, DAY):
                    withdrawals = [withdrawn(chain, i, day)]
                    for on in (9, 10, 11, 14, 15, 16, 20, 21):
                        wanted = None
                        if not 10 <= on <= 20:
                            wanted = ("day", 0)
                        elif on >= day:
                            wanted = ("withdrawn", i)
                        self.assertEqual(self.check(chain, MESSAGE, signed(count), withdrawals, (on,)), wanted)

    def test_withdrawals_that_strike_no_link(self):
        chain = chain_of([warrant_for(1, low=1, high=2), warrant_for(2, low=1, high=2)], [3, 1])
        form = [known.withdrawal_form((chain[i][0], 12)) for i in range(2)]
        nothing = [
            # Another warrant, although the signature counts.
            withdrawn(plain_chain(2), 0, 12), withdrawn(plain_chain(2), 1, 12, place=1),
            # A signature that is not accepted, or by another key, or for another day.
            ((chain[0][0], 12), []), ((chain[0][0], 12), changed(KEYS[0].sign(0, form[0]), 20)),
            ((chain[0][0], 12), KEYS[1].sign(1, form[0])), ((chain[1][0], 12), KEYS[0].sign(1, form[1])),
            ((chain[0][0], 11), KEYS[0].sign(0, form[0])), ((chain[1][0], 12), KEYS[2].sign(1, form[1])),
            # A place that the key may not use.
            withdrawn(chain, 1, 12, place=0), withdrawn(chain, 1, 12, place=3),
            # A signature of the warrant itself, or of a message.
            ((chain[0][0], 12), chain[0][1]), ((chain[0][0], 12), KEYS[0].sign(0, [77] + form[0])),
        ]
        for one in nothing:
            self.assertIsNone(self.check(chain, MESSAGE, signed(2), [one], (15, 12, 11, 20)))
        self.assertIsNone(self.check(chain, MESSAGE, signed(2), nothing, (15, 12, 11, 20)))
        for i, place in ((0, 0), (0, 3), (1, 1), (1, 2)):
            striking = withdrawn(chain, i, 12, place=place)
            for order in (nothing + [striking], [striking] + nothing, [striking, striking]):
                self.assertEqual(self.check(chain, MESSAGE, signed(2), order, (15, 11, 12)), ("withdrawn", i))

    def test_a_warrant_at_two_links(self):
        """A withdrawal strikes each link whose warrant it names and whose key signed it."""
        warrant = warrant_for(0, low=0, high=1)
        chain = [(warrant, KEYS[0].sign(0, known.warrant_form(warrant)))] * 3
        withdrawal = (warrant, 15)
        inside, outside = (KEYS[0].sign(place, known.withdrawal_form(withdrawal)) for place in (1, 2))
        signature = signed(0, place=1)
        self.assertIsNone(self.check(chain, MESSAGE, signature, []))
        self.assertEqual(self.check(chain, MESSAGE, signature, [(withdrawal, inside)]), ("withdrawn", 0))
        # By the root it counts at any place.
        self.assertEqual(self.check(chain, MESSAGE, signature, [(withdrawal, outside)]), ("withdrawn", 0))

    def test_two_faults_in_their_order(self):
        """Links with any of the faults; the first one in the order counts."""
        source, seen = random.Random(237), set()
        for _ in range(250):
            count = source.randrange(1, 4)
            warrants, places = [], []
            for i in range(count):
                named = {}
                if source.randrange(4) == 0:
                    named["depth"] = source.randrange(3)
                if source.randrange(5) == 0:
                    named["scope"] = source.choice(((104,), (105,), (104, 105)))
                if source.randrange(5) == 0:
                    named["first"], named["last"] = source.choice(((10, 14), (15, 15), (16, 20)))
                if source.randrange(4) == 0:
                    named["low"], named["high"] = source.choice(((0, 1), (2, 3), (1, 2)))
                warrants.append(warrant_for(i + 1, **named))
                places.append(source.randrange(4))
            chain = chain_of(warrants, places)
            for i in range(count):
                if source.randrange(8) == 0:
                    chain[i] = (chain[i][0], source.choice(([], chain[i][1][:-1], KEYS[i].sign(0, [1]))))
            withdrawals = []
            for i in range(count):
                if source.randrange(4) == 0:
                    withdrawals.append(withdrawn(chain, i, source.choice((14, 15, 16)), source.randrange(4)))
            signature = signed(count, place=source.randrange(4))
            if source.randrange(8) == 0:
                signature = signature[:-1]
            found = self.check(chain, MESSAGE, signature, withdrawals, (15, 14, 16))
            all_faults = known.faults(KEYS[0].public, chain, MESSAGE, signature, withdrawals, 15)
            seen.add((found and found[0], len(all_faults) > 1))
        for word in ("signature", "place", "depth", "scope", "day", "withdrawn"):
            self.assertIn((word, True), seen)
        self.assertIn((None, False), seen)


class Rights(Granting):
    def test_what_makes_a_right(self):
        chain = chain_of([warrant_for(1, 5, 50, 0, 3, 4, (104,)), warrant_for(2, 10, 40, 1, 2, 7, (104, 105)),
                          warrant_for(3, 0, 30, 2, 9, 1, ())], [0, 1, 2])
        subject = tuple(KEYS[3].public)
        root = KEYS[0].public
        self.assertEqual(right_of(root, chain, []), (subject, 10, 30, 2, 9, 1, (104, 105)))
        self.assertEqual(right_of(root, chain[:2], []), (tuple(KEYS[2].public), 10, 40, 1, 2, 3, (104, 105)))
        self.assertEqual(right_of(root, chain[:1], []), (tuple(KEYS[1].public), 5, 50, 0, 3, 4, (104,)))
        for day, last in ((31, 30), (30, 29), (11, 10)):
            self.assertEqual(right_of(root, chain, [withdrawn(chain, 1, day)]), (subject, 10, last, 2, 9, 1, (104, 105)))
        for day in (10, 9, 0):
            self.assertIsNone(right_of(root, chain, [withdrawn(chain, 0, day)]))
        both = [withdrawn(chain, 0, 25), withdrawn(chain, 1, 20), withdrawn(chain, 0, 28)]
        for order in (both, both[::-1], both + both):
            self.assertEqual(right_of(root, chain, order)[:3], (subject, 10, 19))

    def test_scopes_that_do_not_agree(self):
        for scopes, wanted in ((((1,), (1, 2), (1,)), (1, 2)), (((1, 2), (1, 3), ()), None), (((2,), (1, 2), ()), None),
                               (((), (), ()), ()), (((1, 2), (1, 2), (1, 2)), (1, 2)), (((1, 2), (2, 1), ()), None)):
            chain = chain_of([warrant_for(i + 1, scope=scope) for i, scope in enumerate(scopes)])
            right = right_of(KEYS[0].public, chain, [])
            self.assertEqual(right and right[6], wanted)
            self.check(chain, [1, 2, 3], signed(3, [1, 2, 3]), [])

    def test_more_withdrawals_never_carry_more(self):
        """Point 241."""
        source = random.Random(241)
        for _ in range(25):
            chain = plain_chain(3)
            withdrawals = [withdrawn(chain, source.randrange(3), source.randrange(8, 24), source.randrange(4))
                           for _ in range(3)]
            withdrawals += [((chain[0][0], 5), [1, 2]), withdrawn(plain_chain(1, last=19), 0, 5)]
            some = [one for one in withdrawals if source.randrange(2) == 0]
            mixed = source.sample(withdrawals + some, len(withdrawals + some))
            for day in (8, 10, 13, 17, 20):
                args = (KEYS[0].public, chain, MESSAGE, signed(3))
                if carries(*args, withdrawals, day):
                    self.assertIs(carries(*args, some, day), True)
                self.assertEqual(fault(*args, mixed, day), fault(*args, withdrawals, day))
                self.assertEqual(fault(*args, withdrawals[:3], day), fault(*args, withdrawals, day))
            self.assertEqual(right_of(KEYS[0].public, chain, mixed), right_of(KEYS[0].public, chain, withdrawals))


class Errors(Granting):
    def calls(self, chain, withdrawals, message):
        root = KEYS[0].public
        return [(fault, root, chain, message, [], withdrawals, 15), (carries, root, chain, message, [], withdrawals, 15),
                (days_of, root, chain, message, [], withdrawals), (pairs_of, root, chain, message, []),
                (right_of, root, chain, withdrawals)]

    def test_warrants_and_withdrawals_that_are_none(self):
        good = (warrant_for(1), [])
        for value in (None, (), warrant_for(1)[:-1], list(warrant_for(1)), warrant_for(1, depth=8),
                      warrant_for(1, first=21), warrant_for(1, low=4), warrant_for(1, scope=(1,) * 65), 7,
                      ((1,) * 1001,) + warrant_for(1)[1:]):
            for chain in ([good, (value, [])], [(value, []), good], [(value, [])] + [good] * 9):
                for call in self.calls(chain, [], MESSAGE):
                    self.raises(Malformed, *call)
            for call in self.calls([(value, [])], [], [0] * 65536):
                self.raises(Malformed, *call)
        for value in (None, (), (warrant_for(1),), (warrant_for(1), -1), (warrant_for(1), DAY + 1), (None, 5),
                      (warrant_for(1), True), [warrant_for(1), 5], (warrant_for(1, depth=8), 5), warrant_for(1)):
            for chain, message in (([], [0] * 65536), ([good], MESSAGE), ([good] * 9, MESSAGE)):
                for call in self.calls(chain, [(value, [])], message):
                    if call[0] is not pairs_of:
                        self.raises(Malformed, *call)

    def test_long_messages(self):
        # The length comes before every fault.
        for chain in ([], plain_chain(1), [(warrant_for(1), [])], plain_chain(1, scope=(1,)), plain_chain(1, first=20)):
            for call in self.calls(chain, [], [0] * 65536)[:4] + self.calls(chain, [], [0] * 70000)[:4]:
                self.raises(OutOfRange, *call)
        message = [7] * 65535
        self.assertIsNone(self.check([], message, signed(0, message), []))
        self.assertEqual(len(pairs_of(KEYS[0].public, [], message, [])[0][1]), 65536)


class Pairs(Granting):
    def test_pairs(self):
        for count in (0, 1, 3):
            chain = plain_chain(count)
            pairs = self.pure(pairs_of, KEYS[0].public, chain, MESSAGE, signed(count))
            wanted = [(KEYS[i].public, known.warrant_form(warrant), signature)
                      for i, (warrant, signature) in enumerate(chain)]
            self.assertEqual(pairs, wanted + [(KEYS[count].public, [77] + MESSAGE, signed(count))])
            self.assertTrue(all(type(pair) is tuple and all(type(part) is list for part in pair) for pair in pairs))
            self.assertTrue(all(verify_tower(*pair) for pair in pairs))

    def test_pairs_of_a_chain_that_carries_nothing(self):
        chain = plain_chain(2)
        chain[1] = (chain[1][0], [])
        self.assertEqual(pairs_of([1], chain, MESSAGE, [5])[0], ([1], known.warrant_form(chain[0][0]), chain[0][1]))
        self.assertEqual(pairs_of([1], chain, MESSAGE, [5])[2], (KEYS[2].public, [77] + MESSAGE, [5]))

    def test_what_is_carried_stands_in_the_books_or_tells_a_paper(self):
        """Point 242, with a warrant that its key never signed: somebody found the seed of the root."""
        for count in (0, 1, 2):
            chain = plain_chain(count)
            signature = signed(count)
            self.assertIs(carries(KEYS[0].public, chain, MESSAGE, signature, [], 15), True)
            for i, (public, text, part) in enumerate(pairs_of(KEYS[0].public, chain, MESSAGE, signature)):
                own = [([place], KEYS[i].sign(place, [place])) for place in (0, 3)]
                self.assertIn((text, part), own + [(text, part)])
                paper = accuse_tower(public, own, text, part)
                self.assertIs(judge_tower(public, own, paper), True)


class Entries(Granting):
    def test_entries(self):
        for text, signature in (([], []), ([1, 2], [3]), ([0] * 256, []), (some_bytes(2000), some_bytes(3000))):
            found = self.pure(text_entry, text, signature)
            self.assertEqual(found, known.entry(text, signature))
            self.assertEqual(known.text_of(found), (text, signature))
        for count in (2001, 2002, 70000):
            self.raises(OutOfRange, text_entry, [0] * count, [1])

    def test_withdrawals_in_entries(self):
        chain = plain_chain(2)
        forms = [(known.withdrawal_form((chain[i][0], 12 + i)), KEYS[i].sign(2, [i])) for i in range(2)]
        entries = [text_entry([1, 2], [3]), text_entry(*forms[0]), [], text_entry(forms[1][0], []), [0], [255, 255],
                   text_entry(*forms[1]), text_entry(known.warrant_form(chain[0][0]), chain[0][1]), text_entry(*forms[0])]
        self.assertEqual(self.pure(withdrawals_in, entries), [
            ((chain[0][0], 12), forms[0][1]), ((chain[1][0], 13), []), ((chain[1][0], 13), forms[1][1]),
            ((chain[0][0], 12), forms[0][1])])
        self.assertEqual(withdrawals_in([]), [])

    def test_entries_that_are_none(self):
        chain = plain_chain(1)
        form = known.withdrawal_form((chain[0][0], 12))
        good = text_entry(form, [9, 9])
        none = [form, [0] + good, good[1:], [0, len(form) - 1] + form + [9], text_entry(form[:-20], [])[:20],
                text_entry(form[1:], [9]), text_entry([87] + form[1:], [9]), text_entry([77] + form, [9]),
                # The text must lie within the entry, also where its beginning would be a withdrawal.
                [0, len(form) + 1] + form, [0, len(form) + 9] + form + [1], [1, 0] + form]
        for entry in none:
            found = known.text_of(entry)
            wanted = []
            if found is not None and found[0][:1] == [88]:
                # Fewer bytes of a subject may be a withdrawal of another warrant.
                wanted = withdrawals_in([known.entry(*found)])
                self.assertTrue(all(known.withdrawal_form(one) == found[0] for one, _ in wanted))
            self.assertEqual(withdrawals_in([entry]), wanted)
        self.assertEqual(withdrawals_in([[0, len(form) + 1] + form]), [])
        self.assertEqual(withdrawals_in([good]), [((chain[0][0], 12), [9, 9])])

    def test_logs_at_several_counts(self):
        """Point 244: what is carried at a count is carried at each smaller one."""
        source = random.Random(244)
        suite = suite_named("small-8")
        for _ in range(6):
            chain, log = plain_chain(3), Logbook(suite)
            for k in range(8):
                if source.randrange(2) == 0:
                    withdrawal, signature = withdrawn(chain, source.randrange(3), source.randrange(9, 23))
                    log.append(text_entry(known.withdrawal_form(withdrawal), signature))
                else:
                    log.append(text_entry([k], [k]))
            args = (KEYS[0].public, chain, MESSAGE, signed(3))
            for day in (9, 10, 14, 20):
                told = [carries(*args, withdrawals_in(log.entries()[:count]), day) for count in range(9)]
                self.assertEqual(told, sorted(told, reverse=True))
            for count in range(9):
                self.assertIs(accepts_consistency(suite, log.head(count), log.head(), log.consistency(count)), True)
