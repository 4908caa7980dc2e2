"""Points 163 and 168 to 174: keepers, those of trees and of towers, too."""

import random

import reference
import reference_keeper as known
import reference_tower
from helpers import Case, kind_of, some_bytes
from reference import num
from sealgrove.disk import Disk
from sealgrove.errors import Malformed, OutOfRange, PowerLost, Refused, UsedUp
from sealgrove.journal import Journal
from sealgrove.keeper import Keeper, TowerKeeper, TreeKeeper
from sealgrove.lmsforms import verify_tree
from sealgrove.tower import Tower, number_in, sign_tower, tower_public, verify_tower

LAST = 2 ** 64 - 1
I = list(range(40, 56))
HIGH = [7] * 7 + [0] * 9


class Failing(Exception):
    """What a sign function raises."""


def echo(place, message):
    return [place % 256] + message


def told(disk, keeper):
    return disk.image(), disk.loose(), disk.deeds(), keeper.next_place(), keeper.limit(), keeper.left()


def disk_with(records, size=200):
    disk = Disk(size)
    journal = Journal(disk)
    for record in records:
        journal.append(record)
    return disk


class Signing(Case):
    def test_the_records(self):
        """The bytes of the disk behind each signature and each opening, against the points."""
        for size in (64, 65, 200):
            for block in (1, 2, 3, 7, 100, 10 ** 30):
                for places in (0, 1, 5, 21):
                    disk, image = Disk(size), [[0] * size]
                    for _ in range(2):
                        keeper = Keeper(disk, echo, places, block)
                        plain = known.Keeping(image, places, block)
                        for k in range(min(places - plain.next, 9)):
                            place = plain.sign()
                            self.assertEqual(keeper.sign([k]), (place, [place, k]))
                            self.assertEqual(disk.image(), image[0])
                            self.assertEqual(disk.loose(), [])
                            self.assertEqual((keeper.next_place(), keeper.limit(), keeper.left()),
                                             (plain.next, plain.limit, places - plain.next))
                        if plain.next == places:
                            before = told(disk, keeper)
                            self.raises(UsedUp, keeper.sign, [1])
                            self.assertEqual(told(disk, keeper), before)

    def test_blocks_are_reserved_once(self):
        """No deed is done for a place below the limit."""
        disk = Disk(64)
        keeper = Keeper(disk, echo, 10, 4)
        deeds = []
        for _ in range(10):
            keeper.sign([])
            deeds.append(disk.deeds())
        self.assertEqual(deeds, [5] * 4 + [10] * 4 + [15] * 2)
        self.assertEqual(keeper.limit(), 10)

    def test_the_rewriting_when_the_disk_is_full(self):
        disk = Disk(64)
        keeper = Keeper(disk, echo, 100, 1)
        for place in range(8):
            keeper.sign([])
            # There is room for two records of nine bytes in 26 bytes.
            count = place % 2 + 1
            limits = list(range(place + 2 - count, place + 2))
            self.assertEqual(known.records(disk.image()), [num(limit, 8) for limit in limits])
        self.assertEqual(disk.deeds(), 40)

    def test_great_numbers_of_places(self):
        disk = disk_with([num(LAST - 3, 8)])
        keeper = Keeper(disk, echo, LAST, 2)
        self.assertEqual([keeper.sign([])[0] for _ in range(3)], [LAST - 3, LAST - 2, LAST - 1])
        self.raises(UsedUp, keeper.sign, [])
        self.assertEqual(known.records(disk.image()), [num(LAST - 3, 8), num(LAST - 1, 8), num(LAST, 8)])
        self.assertEqual(Keeper(disk, echo, LAST, 1).left(), 0)

    def test_what_the_sign_function_is_passed(self):
        passed = []

        def sign(place, message):
            passed.append((place, list(message)))
            message.append(1)
            return message

        message = [7, 8]
        keeper = Keeper(Disk(64), sign, 10, 4)
        place, signature = keeper.sign(message)
        self.assertEqual((passed, message, place, signature), ([(0, [7, 8])], [7, 8], 0, [7, 8, 1]))
        # Nothing is shared with what was handed over.
        same = Keeper(Disk(64), lambda place, message: message, 10, 4).sign(message)[1]
        self.assertEqual(same, message)
        self.assertIsNot(same, message)
        for answer in (None, 7, "word", (1, [2])):
            self.assertEqual(Keeper(Disk(64), lambda place, message: answer, 1, 1).sign([]), (0, answer))

    def test_sign_functions_that_raise_errors(self):
        for error in (Failing, KeyError, UsedUp, PowerLost, Refused, Malformed):
            tried = []

            def sign(place, message):
                tried.append(place)
                if place % 3 != 1:
                    raise error("no")
                return place

            disk = Disk(64)
            keeper = Keeper(disk, sign, 8, 3)
            for place in range(8):
                if place % 3 == 1:
                    self.assertEqual(keeper.sign([]), (place, place))
                else:
                    self.raises(error, keeper.sign, [])
                # The place is given up.
                self.assertEqual((keeper.next_place(), keeper.left()), (place + 1, 7 - place))
            self.assertEqual(tried, list(range(8)))
            self.raises(UsedUp, keeper.sign, [])
            self.assertEqual(known.records(disk.image())[-1], num(8, 8))

    def test_the_place_is_used_before_the_sign_function_is_called(self):
        disk = Disk(64)
        seen = []
        keeper = Keeper(disk, lambda place, message: seen.append((keeper.next_place(), keeper.limit())), 9, 4)
        keeper.sign([])
        keeper.sign([])
        self.assertEqual(seen, [(1, 4), (2, 4)])


class Skipping(Case):
    def test_against_the_points(self):
        source = random.Random(171)
        for _ in range(60):
            places, block, size = source.randrange(40), source.randrange(1, 6), source.choice((64, 80))
            disk, image = Disk(size), [[0] * size]
            keeper, plain = Keeper(disk, echo, places, block), known.Keeping(image, places, block)
            for _ in range(15):
                count = source.randrange(6)
                if source.randrange(2) == 0:
                    if count > places - plain.next:
                        before = told(disk, keeper)
                        self.raises(OutOfRange, keeper.skip, count)
                        self.assertEqual(told(disk, keeper), before)
                    else:
                        plain.skip(count)
                        self.assertIsNone(keeper.skip(count))
                elif plain.next < places:
                    self.assertEqual(keeper.sign([])[0], plain.sign())
                self.assertEqual((disk.image(), keeper.next_place(), keeper.limit()),
                                 (image[0], plain.next, plain.limit))

    def test_within_and_beyond_the_limit(self):
        disk = Disk(200)
        keeper = Keeper(disk, echo, 20, 4)
        keeper.skip(0)
        self.assertEqual((keeper.next_place(), keeper.limit(), disk.deeds()), (0, 0, 0))
        keeper.sign([])
        for count, place, limit, deeds in ((0, 1, 4, 5), (3, 4, 4, 5), (0, 4, 4, 5), (5, 9, 9, 10), (1, 10, 10, 15),
                                           (10, 20, 20, 20), (0, 20, 20, 20)):
            keeper.skip(count)
            self.assertEqual((keeper.next_place(), keeper.limit(), disk.deeds()), (place, limit, deeds))
        self.assertEqual(known.records(disk.image()), [num(limit, 8) for limit in (4, 9, 10, 20)])

    def test_skipped_places_are_not_used(self):
        disk = Disk(64)
        keeper = Keeper(disk, echo, 30, 4)
        used = [keeper.sign([])[0]]
        keeper.skip(7)
        used.append(keeper.sign([])[0])
        keeper.skip(2)
        # A skip that returned counts for the keepers that are opened later, too.
        disk.crash([])
        later = Keeper(disk, echo, 30, 4)
        later.skip(3)
        disk.crash([])
        used.append(Keeper(disk, echo, 30, 4).sign([])[0])
        self.assertEqual(used, [0, 8, 15])

    def test_what_is_out_of_range(self):
        disk = Disk(64)
        keeper = Keeper(disk, echo, 10, 4)
        keeper.sign([])
        before = told(disk, keeper)
        for count in (-1, 10, 11, -10 ** 5000, 10 ** 5000):
            self.raises(OutOfRange, keeper.skip, count)
        self.assertEqual(told(disk, keeper), before)
        keeper.skip(9)
        for count in (-1, 1):
            self.raises(OutOfRange, keeper.skip, count)


class Opening(Case):
    def test_bounds(self):
        for places in (0, 1, LAST):
            self.assertEqual(Keeper(Disk(64), echo, places, 1).left(), places)
        for places in (-1, LAST + 1, 10 ** 5000, -10 ** 5000):
            self.raises(OutOfRange, Keeper, Disk(64), echo, places, 1)
            self.raises(OutOfRange, Keeper, Disk(64, [9] * 64), echo, places, 0)
        for block in (0, -1, -10 ** 5000):
            self.raises(OutOfRange, Keeper, Disk(64), echo, 10, block)
            self.raises(OutOfRange, Keeper, Disk(64, [9] * 64), echo, 10, block)

    def test_records_that_are_none(self):
        wrong = ([num(11, 8)], [num(5, 7)], [num(5, 9)], [[]], [num(3, 8), num(4, 4)], [num(3, 1), num(4, 8)],
                 [num(3, 8), num(LAST, 8)])
        for records in wrong:
            disk = disk_with(records)
            older = Journal(disk)
            before = disk.image()
            self.raises(Malformed, Keeper, disk, echo, 10, 1)
            # What cannot be opened leaves the disk and its user alone.
            self.assertEqual((disk.image(), older.is_stale()), (before, False))
        disk = Disk(64, [9] * 64)
        self.raises(Malformed, Keeper, disk, echo, 10, 1)

    def test_the_last_record_counts(self):
        for limits in ([3], [3, 7], [7, 3], [50, 10], [10, 0]):
            keeper = Keeper(disk_with([num(limit, 8) for limit in limits]), echo, 10, 1)
            self.assertEqual((keeper.next_place(), keeper.limit(), keeper.left()),
                             (limits[-1], limits[-1], 10 - limits[-1]))

    def test_without_power(self):
        disk = Disk(64, [9] * 64)
        disk.fail_after(0)
        self.raises(PowerLost, disk.sync)
        number = disk.claim()
        self.raises(PowerLost, Keeper, disk, echo, 10, 1)
        self.raises(OutOfRange, Keeper, disk, echo, 10, 0)
        self.assertTrue(disk.is_user(number))

    def test_the_next_place_of_each_keeper(self):
        """Point 173, also for a keeper that was never asked to sign."""
        disk = Disk(64)
        self.assertEqual(Keeper(disk, echo, 100, 3).next_place(), 0)
        source, before, block = random.Random(173), 0, 3
        for _ in range(60):
            keeper = Keeper(disk, echo, 100, block)
            self.assertTrue(before <= keeper.next_place() <= before + block)
            block = source.randrange(1, 5)
            keeper = Keeper(disk, echo, 100, block)
            for _ in range(source.randrange(4)):
                if keeper.left() > 0:
                    keeper.sign([])
            before = keeper.next_place()
            if source.randrange(2) == 0:
                disk.crash([])


class Stale(Case):
    def test_everything_is_refused(self):
        for why in ("opened", "journal", "crash", "used up"):
            disk = Disk(64)
            keeper = Keeper(disk, echo, 6, 4)
            keeper.sign([])
            if why == "used up":
                keeper.skip(5)
            if why == "opened":
                Keeper(disk, echo, 6, 4)
            elif why == "journal":
                Journal(disk)
            else:
                disk.crash([])
            before = told(disk, keeper)
            self.raises(Refused, keeper.sign, [])
            # It comes before every other error.
            for count in (0, 1, -1, 7, 10 ** 5000):
                self.raises(Refused, keeper.skip, count)
            self.assertEqual(told(disk, keeper), before)

    def test_a_keeper_beside_a_newer_one(self):
        disk = Disk(64)
        older = Keeper(disk, echo, 100, 4)
        used = [older.sign([])[0]]
        newer = Keeper(disk, echo, 100, 4)
        self.raises(Refused, older.sign, [])
        used += [newer.sign([])[0] for _ in range(5)]
        self.raises(Refused, older.sign, [])
        self.raises(Refused, older.skip, 1)
        self.assertEqual(used, [0, 4, 5, 6, 7, 8])

    def test_the_order_of_the_errors(self):
        disk = Disk(64)
        keeper = Keeper(disk, echo, 5, 4)
        keeper.sign([])
        disk.fail_after(0)
        self.raises(PowerLost, disk.sync)
        # No deed is needed for a place below the limit.
        self.assertEqual([keeper.sign([])[0] for _ in range(3)], [1, 2, 3])
        before = told(disk, keeper)
        self.raises(PowerLost, keeper.sign, [])
        self.raises(PowerLost, keeper.skip, 1)
        self.raises(OutOfRange, keeper.skip, 2)
        self.assertEqual(told(disk, keeper), before)
        keeper.skip(0)
        disk.crash([])
        keeper = Keeper(disk, echo, 5, 4)
        keeper.skip(1)
        disk.fail_after(0)
        self.raises(PowerLost, disk.sync)
        self.raises(UsedUp, keeper.sign, [])


class Crashes(Case):
    def test_a_failure_before_each_deed(self):
        for block in (1, 3):
            for signed in (0, 1, 2, 5):
                for count in range(6):
                    for picks in ([], [1] * 99, [0, 1] * 50, [1, 0] * 50):
                        disk = Disk(64)
                        used = []
                        keeper = Keeper(disk, lambda place, message: used.append(place), 100, block)
                        for _ in range(signed):
                            keeper.sign([])
                        disk.fail_after(count)
                        for _ in range(block + 1):
                            try:
                                keeper.sign([])
                            except PowerLost:
                                self.assertEqual(keeper.next_place(), len(used))
                        disk.crash(picks)
                        reached = keeper.next_place()
                        newer = Keeper(disk, lambda place, message: used.append(place), 100, block)
                        self.assertTrue(reached <= newer.next_place() <= reached + block)
                        newer.sign([])
                        self.assertEqual(used, sorted(set(used)))

    def test_drawn_sequences(self):
        """Points 172 and 173."""
        source = random.Random(172)
        for _ in range(300):
            size, places = source.choice((64, 70, 150)), source.choice((7, 40, 1000))
            disk, used, skipped = Disk(size), [], []
            keepers, before, block, has_skipped = [], 0, 0, False
            for _ in range(40):
                what = source.randrange(10)
                try:
                    if what == 0 or not keepers:
                        opened = source.randrange(1, 6)
                        keeper = Keeper(disk, lambda place, message: used.append(place), places, opened)
                        if keepers and not has_skipped:
                            self.assertTrue(before <= keeper.next_place() <= before + block)
                        self.assertGreaterEqual(keeper.next_place(), before)
                        keepers.append(keeper)
                        block, has_skipped = opened, False
                    elif what == 1:
                        disk.fail_after(source.randrange(8))
                    elif what == 2:
                        disk.crash([source.randrange(-2, 4) for _ in range(source.randrange(30))])
                    elif what == 3:
                        keeper, count = source.choice(keepers[-2:]), source.randrange(5)
                        first = keeper.next_place()
                        has_skipped = has_skipped or keeper is keepers[-1]
                        keeper.skip(count)
                        skipped.extend(range(first, first + count))
                    else:
                        source.choice(keepers[-1:] * 5 + keepers[-2:]).sign([])
                except (PowerLost, Refused, UsedUp, OutOfRange):
                    pass
                if keepers:
                    before = keepers[-1].next_place()
            self.assertEqual(used, sorted(set(used)))
            self.assertFalse(set(used) & set(skipped))


class Trees(Case):
    KINDS = (("small-1", 8, 0), ("small-2", 4, 3), ("small-3", 2, 2), ("sha-3", 4, 1))

    def test_each_signature(self):
        for words in self.KINDS:
            kind = kind_of(*words)
            seed = some_bytes(kind.suite.size, 3)
            public = reference.lms_public(*words, I, reference.lms_value(*words, I, seed, 1))
            for schedule in ("even", "lowest"):
                disk = Disk(64)
                keeper = TreeKeeper(disk, kind, I, seed, 3, schedule=schedule)
                self.assertEqual(self.pure(keeper.public), public)
                for q in range(kind.places):
                    self.assertEqual((keeper.next_place(), keeper.left()), (q, kind.places - q))
                    place, form = keeper.sign([q, 7])
                    known_form = reference.lms_form(*words, reference.lms_sign(*words, I, seed, q, [q, 7]))
                    self.assertEqual((place, form), (q, known_form))
                    self.assertTrue(verify_tree(public, [q, 7], form))
                    self.assertEqual(keeper.limit(), min(q // 3 * 3 + 3, kind.places))
                self.raises(UsedUp, keeper.sign, [1])
                self.assertEqual(keeper.public(), public)
                self.assertEqual(TreeKeeper(disk, kind, I, seed, 3).public(), public)

    def test_going_on_behind_crashes_and_skips(self):
        words = ("small-2", 4, 4)
        kind, seed = kind_of(*words), [5, 6]
        for schedule in ("even", "lowest"):
            source = random.Random(168)
            for _ in range(6):
                disk, used = Disk(64), []
                keeper = TreeKeeper(disk, kind, I, seed, 2, schedule=schedule)
                while keeper.left() > 0:
                    what = source.randrange(5)
                    if what == 0:
                        keeper.skip(source.randrange(min(keeper.left(), 3) + 1))
                    elif what == 1:
                        disk.crash([source.randrange(3) for _ in range(20)])
                        keeper = TreeKeeper(disk, kind, I, seed, 2, schedule=schedule)
                    else:
                        place, form = keeper.sign([what])
                        used.append(place)
                        signature = reference.lms_sign(*words, I, seed, place, [what])
                        self.assertEqual(form, reference.lms_form(*words, signature))
                self.assertEqual(used, sorted(set(used)))

    def test_what_is_raised_and_in_which_order(self):
        kind = kind_of("small-2", 8, 1)
        bad = Disk(64, [9] * 64)
        for identifier, seed in ((I[:15], [1, 2]), (I + [1], [1, 2]), (I, [1]), (I, [1, 2, 3]), ([], [])):
            self.raises(OutOfRange, TreeKeeper, Disk(64), kind, identifier, seed, 1)
            self.raises(OutOfRange, TreeKeeper, bad, kind, identifier, seed, 0, schedule="odd")
        for schedule in ("", "odd", "Even"):
            # What KeptKey raises comes before what Keeper raises.
            self.raises(Malformed, TreeKeeper, Disk(64), kind, I, [1, 2], 1, schedule=schedule)
            self.raises(Malformed, TreeKeeper, Disk(64), kind, I, [1, 2], 0, schedule=schedule)
        for block in (0, -1, -10 ** 5000):
            self.raises(OutOfRange, TreeKeeper, bad, kind, I, [1, 2], block)
        self.raises(Malformed, TreeKeeper, bad, kind, I, [1, 2], 1)
        self.raises(Malformed, TreeKeeper, disk_with([num(3, 8)]), kind, I, [1, 2], 1)
        self.assertEqual(TreeKeeper(disk_with([num(2, 8)]), kind, I, [1, 2], 1).left(), 0)
        bad.fail_after(0)
        self.raises(PowerLost, bad.sync)
        self.raises(PowerLost, TreeKeeper, bad, kind, I, [1, 2], 1)

    def test_arguments_are_copied(self):
        kind, identifier, seed = kind_of("small-2", 8, 1), list(I), [1, 2]
        keeper = TreeKeeper(Disk(64), kind, identifier, seed, 1)
        identifier[0], seed[0] = 0, 0
        fresh = TreeKeeper(Disk(64), kind, I, [1, 2], 1)
        self.assertEqual(keeper.public(), fresh.public())
        self.assertEqual([keeper.sign([4]), keeper.sign([5])], [fresh.sign([4]), fresh.sign([5])])


def long_messages(case, disk, keeper):
    """A message that is too long comes before everything else, and uses no place."""
    message = [3] * 65536
    before = told(disk, keeper)
    case.raises(OutOfRange, keeper.sign, message + [3])
    case.assertEqual(told(disk, keeper), before)
    place, form = keeper.sign(message)
    keeper.skip(keeper.left())
    case.raises(OutOfRange, keeper.sign, message + [3])
    case.raises(UsedUp, keeper.sign, message)
    disk.fail_after(0)
    case.raises(PowerLost, disk.sync)
    case.raises(OutOfRange, keeper.sign, message + [3])
    disk.crash([])
    case.raises(OutOfRange, keeper.sign, message + [3])
    case.raises(Refused, keeper.sign, message)
    for count in (0, -1, 1):
        case.raises(Refused, keeper.skip, count)
    return place, form, message


class Long(Case):
    def test_trees(self):
        kind, disk = kind_of("small-1", 8, 1), Disk(64)
        keeper = TreeKeeper(disk, kind, I, [9], 1)
        place, form, message = long_messages(self, disk, keeper)
        self.assertTrue(place == 0 and verify_tree(keeper.public(), message, form))

    def test_towers(self):
        kind, disk = kind_of("small-1", 8, 1), Disk(64)
        keeper = TowerKeeper(disk, Tower([kind, kind]), HIGH, [9], 1)
        place, form, message = long_messages(self, disk, keeper)
        self.assertTrue(place == 0 and verify_tower(keeper.public(), message, form))


class Towers(Case):
    WORDS = [("small-2", 8, 1), ("small-2", 4, 0), ("small-2", 4, 2)]

    def tower(self):
        return Tower([kind_of(*level) for level in self.WORDS])

    def test_each_signature(self):
        tower, seed = self.tower(), [5, 6]
        disk = Disk(64)
        keeper = TowerKeeper(disk, tower, HIGH, seed, 3)
        public = tower_public(tower, HIGH, seed)
        self.assertEqual(self.pure(keeper.public), public)
        for m in range(8):
            self.assertEqual((keeper.next_place(), keeper.left()), (m, 8 - m))
            place, form = keeper.sign([m, 7])
            self.assertEqual((place, form), (m, reference_tower.form(self.WORDS, HIGH, seed, m, [m, 7])))
            self.assertTrue(verify_tower(public, [m, 7], form))
            self.assertEqual(keeper.limit(), min(m // 3 * 3 + 3, 8))
        self.raises(UsedUp, keeper.sign, [1])
        self.assertEqual(keeper.public(), public)

    def test_going_on_behind_crashes_and_skips(self):
        tower, seed = self.tower(), [5, 6]
        public = tower_public(tower, HIGH, seed)
        source = random.Random(138)
        for _ in range(12):
            disk, used = Disk(64), []
            keeper = TowerKeeper(disk, tower, HIGH, seed, 2)
            while keeper.left() > 0:
                what = source.randrange(6)
                if what == 0:
                    keeper.skip(source.randrange(min(keeper.left(), 3) + 1))
                elif what == 1:
                    disk.crash([source.randrange(3) for _ in range(20)])
                    keeper = TowerKeeper(disk, tower, HIGH, seed, 2)
                else:
                    place, form = keeper.sign([what])
                    used.append(place)
                    self.assertEqual(form, sign_tower(tower, HIGH, seed, place, [what]))
                    self.assertEqual(number_in(public, form), place)
            self.assertEqual(used, sorted(set(used)))
            self.assertEqual(keeper.public(), public)

    def test_what_is_raised_and_in_which_order(self):
        tower = self.tower()
        bad = Disk(64, [9] * 64)
        for identifier, seed in ((HIGH[:15], [1, 2]), (HIGH + [0], [1, 2]), (HIGH[:15] + [1], [1, 2]), (I, [1, 2]),
                                 (HIGH, [1]), (HIGH, [1, 2, 3])):
            self.raises(OutOfRange, TowerKeeper, Disk(64), tower, identifier, seed, 1)
            self.raises(OutOfRange, TowerKeeper, bad, tower, identifier, seed, 0)
        for block in (0, -1, -10 ** 5000):
            self.raises(OutOfRange, TowerKeeper, bad, tower, HIGH, [1, 2], block)
        self.raises(Malformed, TowerKeeper, bad, tower, HIGH, [1, 2], 1)
        self.raises(Malformed, TowerKeeper, disk_with([num(9, 8)]), tower, HIGH, [1, 2], 1)
        bad.fail_after(0)
        self.raises(PowerLost, bad.sync)
        self.raises(PowerLost, TowerKeeper, bad, tower, HIGH, [1, 2], 1)

    def test_great_towers(self):
        """A tower of height 60 has its places in a keeper, too, and only the trees that are needed are made."""
        tower = Tower([kind_of("small-1", 8, 1)] * 8 + [])
        great = Tower([kind_of("small-1", 8, 25), kind_of("small-1", 8, 25), kind_of("small-1", 8, 10)])
        keeper = TowerKeeper(Disk(64), great, HIGH, [1], 1)
        self.assertEqual(keeper.left(), 2 ** 60)
        keeper.skip(2 ** 60 - 1)
        self.assertEqual((keeper.left(), keeper.limit()), (1, 2 ** 60 - 1))
        keeper = TowerKeeper(Disk(64), tower, HIGH, [1], 1)
        keeper.skip(200)
        place, form = keeper.sign([7])
        self.assertEqual((place, number_in(keeper.public(), form)), (200, 200))


class Copies(Case):
    def test_a_copy_of_a_disk_uses_places_twice(self):
        """Point 174."""
        disk = Disk(64)
        Keeper(disk, echo, 10, 2).sign([])
        copy = Disk(64, disk.image())
        self.assertEqual(Keeper(disk, echo, 10, 2).sign([])[0], 2)
        self.assertEqual(Keeper(copy, echo, 10, 2).sign([])[0], 2)
