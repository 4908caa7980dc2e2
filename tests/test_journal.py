"""Points 163 to 167: journals."""

import itertools
import random

import reference_keeper as known
from helpers import Case, some_bytes
from reference import num
from sealgrove.disk import Disk
from sealgrove.errors import Malformed, OutOfRange, PowerLost, Refused
from sealgrove.journal import Journal

NO_RECORDS = (None, 7, "ab", (1, 2), [256], [-1], [True], [1, None], [[1]], b"ab", [0] * 256, {1: 1}, [1.0])


def told(disk, journal):
    return disk.image(), disk.loose(), disk.deeds(), journal.records(), journal.room(), journal.is_stale()


def filled(size, records):
    """A disk whose journal has these records."""
    disk = Disk(size)
    journal = Journal(disk)
    for record in records:
        journal.append(record)
    return disk, journal


class Changes(Case):
    def check_deeds(self, image, images, change):
        """The change leaves these bytes behind each of its deeds, and takes five of them."""
        for count in range(6):
            disk = Disk(len(image), image)
            journal = Journal(disk)
            before = told(disk, journal)[3:]
            disk.fail_after(count)
            if count < 5:
                self.raises(PowerLost, change, journal)
                self.assertEqual(told(disk, journal)[3:], before)
            else:
                self.assertIsNone(change(journal))
                self.assertEqual(journal.records(), known.records(images[-1]))
                self.assertEqual(journal.room(),
                                 known.area_size(len(image)) - len(known.forms(known.records(images[-1]))))
            self.assertEqual(disk.image(), images[count])
            self.assertEqual(disk.deeds(), count)
            # Only the third and the fifth deed are syncs.
            written = [at for at in range(len(image)) if images[(0, 0, 0, 3, 3, 5)[count]][at] != images[count][at]]
            self.assertLessEqual(set(written), set(disk.loose()))
            self.assertEqual(bool(disk.loose()), count in (1, 2, 4) and images[count] is not image)

    def test_appending(self):
        for size in (64, 65, 300):
            image = [0] * size
            for record in ([9], [], [1, 2, 3], some_bytes(10)):
                images = known.appending(image, record)
                self.check_deeds(image, images, lambda journal: journal.append(record))
                image = images[-1]

    def test_rewriting(self):
        for size in (64, 65, 300):
            image = known.appending([0] * size, [5, 5])[-1]
            for records in ([[9]], [[1], [2, 3], []], [some_bytes(12), some_bytes(6)]):
                images = known.rewriting(image, records)
                self.check_deeds(image, images, lambda journal: journal.rewrite(records))
                image = images[-1]

    def test_a_rewriting_with_no_records(self):
        disk, journal = filled(64, [[1], [2]])
        done = disk.deeds()
        journal.rewrite([])
        self.assertEqual(disk.deeds(), done + 5)
        self.assertEqual((journal.records(), journal.room()), ([], 26))
        self.assertEqual(Journal(disk).records(), [])

    def test_drawn_changes(self):
        source = random.Random(164)
        for _ in range(40):
            size = source.choice((64, 64, 70, 121, 600))
            image, disk = [0] * size, Disk(size)
            journal = Journal(disk)
            for _ in range(25):
                if source.randrange(6) == 0:
                    journal = Journal(disk)
                elif source.randrange(3) > 0:
                    record = some_bytes(source.randrange(8), source.random())
                    images = known.appending(image, record)
                    if images is None:
                        self.raises(Refused, journal.append, record)
                    else:
                        journal.append(record)
                        image = images[-1]
                else:
                    records = [some_bytes(source.randrange(8), source.random()) for _ in range(source.randrange(6))]
                    images = known.rewriting(image, records)
                    if images is None:
                        self.raises(Refused, journal.rewrite, records)
                    else:
                        journal.rewrite(records)
                        image = images[-1]
                self.assertEqual(disk.image(), image)
                self.assertEqual(disk.loose(), [])
                self.assertEqual(journal.records(), known.records(image))

    def test_room(self):
        for size in (64, 65, 66, 600, 65536):
            area = (size - 11) // 2
            disk = Disk(size)
            self.assertEqual(Journal(disk).room(), area)
        for size in (64, 65, 200, 267, 268, 269):
            area = (size - 11) // 2
            first = [4] * 20
            for length in (area - 23, area - 22, area - 21, area - 20):
                if length > 255:
                    continue
                disk, journal = filled(size, [first])
                before = told(disk, journal)
                if length + 1 <= area - 21:
                    journal.append([7] * length)
                    self.assertEqual(journal.room(), area - 22 - length)
                    self.assertEqual(Journal(disk).records(), [first, [7] * length])
                else:
                    self.raises(Refused, journal.append, [7] * length)
                    self.assertEqual(told(disk, journal), before)

    def test_room_for_rewriting(self):
        for size in (64, 65, 200):
            area = (size - 11) // 2
            disk, journal = filled(size, [[1], [2]])
            before = told(disk, journal)
            for records in ([[7] * area], [[7] * (area - 10), [6] * 9], [[]] * (area + 1)):
                self.raises(Refused, journal.rewrite, records)
                self.assertEqual(told(disk, journal), before)
            for records in ([[7] * (area - 1)], [[7] * (area - 10), [6] * 8], [[]] * area):
                journal.rewrite(records)
                self.assertEqual((journal.records(), journal.room()), (records, 0))
                self.raises(Refused, journal.append, [])
                self.assertEqual(Journal(disk).records(), records)
                journal = Journal(disk)

    def test_records_that_are_none(self):
        disk, journal = filled(1000, [[1]])
        before = told(disk, journal)
        for record in NO_RECORDS:
            self.raises(Malformed, journal.append, record)
            self.raises(Malformed, journal.rewrite, [record])
            self.raises(Malformed, journal.rewrite, [[1], record, [2]])
        self.assertEqual(told(disk, journal), before)
        journal.append([0] * 255)
        self.assertEqual(journal.records(), [[1], [0] * 255])

    def test_what_is_handed_over_is_copied(self):
        disk, journal = filled(100, [])
        record = [1, 2]
        journal.append(record)
        record[0] = 9
        self.assertEqual(journal.records(), [[1, 2]])
        records = [[3], [4]]
        journal.rewrite(records)
        records[0][0] = 9
        records.clear()
        self.assertEqual(self.pure(journal.records), [[3], [4]])
        self.assertEqual(Journal(disk).records(), [[3], [4]])


class Opening(Case):
    def test_disks_of_zeros(self):
        for size in (64, 77, 65536):
            disk = Disk(size)
            journal = Journal(disk)
            self.assertEqual((journal.records(), disk.deeds(), disk.image()), ([], 0, [0] * size))

    def image_of(self, size, pointer, area, length, data, other=()):
        image = [0] * size
        at = (1, 6)[pointer & 1]
        image[0] = pointer
        image[at:at + 5] = [area] + num(length, 4)
        start = 11 + (area & 1) * ((size - 11) // 2)
        image[start:start + len(data)] = data
        for at, byte in other:
            image[at] = byte
        return image

    def test_each_head_and_area(self):
        for size in (64, 65, 90):
            for pointer, area in itertools.product((0, 1), (0, 1)):
                data = known.forms([[5], [], [6, 7]])
                # What lies behind the records, in the other area and in the other head does not matter.
                behind = 11 + area * ((size - 11) // 2) + len(data)
                rest = [((6, 1)[pointer] + k, 255) for k in range(5)] + [(behind, 200), (11 + (1 - area) * 27, 200)]
                image = self.image_of(size, pointer, area, len(data), data, rest)
                journal = Journal(Disk(size, image))
                self.assertEqual(journal.records(), [[5], [], [6, 7]])
                self.assertEqual(journal.room(), (size - 11) // 2 - len(data))

    def test_what_is_malformed(self):
        forms = known.forms([[5], [6, 7]])
        wrong = [
            self.image_of(64, 2, 0, 5, forms), self.image_of(64, 255, 0, 5, forms), self.image_of(64, 3, 0, 5, forms),
            self.image_of(64, 0, 2, 5, forms), self.image_of(64, 1, 255, 5, forms),
            self.image_of(64, 0, 0, 27, [26] + [1] * 26), self.image_of(64, 0, 1, 256, []),
            self.image_of(64, 1, 0, 2 ** 32 - 1, []), self.image_of(64, 1, 1, 2 ** 24, []),
            self.image_of(64, 0, 0, 4, forms), self.image_of(64, 0, 0, 3, forms), self.image_of(64, 1, 1, 6, forms + [1]),
            self.image_of(64, 0, 0, 26, [25] + [1] * 25 + [0])[:11] + [26] + [1] * 52,
        ]
        for image in wrong:
            self.assertIsNone(known.journal(image))
            disk = Disk(64, image)
            number = disk.claim()
            self.raises(Malformed, Journal, disk)
            self.assertTrue(disk.is_user(number))
            self.assertEqual((disk.image(), disk.deeds()), (image, 0))
        # A length of the whole area is none of them.
        image = self.image_of(64, 0, 1, 26, [25] + [1] * 25)
        self.assertEqual(Journal(Disk(64, image)).records(), [[1] * 25])
        image = self.image_of(64, 0, 0, 6, forms + [0])
        self.assertEqual(Journal(Disk(64, image)).records(), [[5], [6, 7], []])

    def test_drawn_disks(self):
        source = random.Random(165)
        opened = 0
        for _ in range(4000):
            image = [source.choice((0, 0, 0, 1, 2, 3, 9, 26, 27, 255)) for _ in range(64)]
            image[0] = source.randrange(3)
            at = (1, 6, 1)[image[0]]
            image[at:at + 5] = [source.randrange(3), 0, 0, 0, source.randrange(30)]
            found = known.journal(image)
            if found is None:
                self.raises(Malformed, Journal, Disk(64, image))
            else:
                opened += 1
                self.assertEqual(Journal(Disk(64, image)).records(), found[2])
        self.assertGreater(opened, 100)

    def test_without_power(self):
        disk = Disk(64, [2] * 64)
        number = disk.claim()
        disk.fail_after(0)
        self.raises(PowerLost, disk.sync)
        self.raises(PowerLost, Journal, disk)
        self.assertTrue(disk.is_user(number))

    def test_opening_takes_no_deed(self):
        disk = Disk(64)
        disk.fail_after(0)
        self.assertEqual(Journal(disk).records(), [])
        self.assertEqual(disk.deeds(), 0)


class Stale(Case):
    def stale_ones(self):
        """Stale journals with their disks, and why they are stale."""
        for why in ("opened", "claimed", "crash", "power"):
            disk, journal = filled(64, [[1], [2]])
            if why == "opened":
                Journal(disk)
            elif why == "claimed":
                disk.claim()
            else:
                disk.crash([])
            if why == "power":
                disk.fail_after(0)
                self.raises(PowerLost, disk.sync)
            yield disk, journal

    def test_what_is_refused(self):
        for disk, journal in self.stale_ones():
            before = told(disk, journal)
            self.assertIs(before[5], True)
            self.assertEqual(before[3], [[1], [2]])
            self.raises(Refused, journal.append, [3])
            self.raises(Refused, journal.rewrite, [[3]])
            # It comes before every other error.
            for record in NO_RECORDS:
                self.raises(Refused, journal.append, record)
                self.raises(Refused, journal.rewrite, [record])
            self.raises(Refused, journal.append, [3] * 60)
            self.assertEqual(told(disk, journal), before)

    def test_the_order_of_the_errors(self):
        disk, journal = filled(64, [[1], [2]])
        self.assertIs(journal.is_stale(), False)
        disk.fail_after(0)
        self.raises(PowerLost, disk.sync)
        before = told(disk, journal)
        # Records that are none come before too little room, and this before the power.
        self.raises(Malformed, journal.append, [300] * 60)
        self.raises(Malformed, journal.append, [0] * 256)
        self.raises(Malformed, journal.rewrite, [[0] * 60, None])
        self.raises(Refused, journal.append, [0] * 60)
        self.raises(Refused, journal.rewrite, [[0] * 60])
        self.raises(PowerLost, journal.append, [0])
        self.raises(PowerLost, journal.rewrite, [[0]])
        self.assertEqual(told(disk, journal), before)
        self.assertIs(journal.is_stale(), False)

    def test_a_newer_one_goes_on(self):
        disk, journal = filled(64, [[1], [2]])
        newer = Journal(disk)
        self.raises(Refused, journal.append, [3])
        newer.append([3])
        self.assertEqual((newer.is_stale(), journal.is_stale()), (False, True))
        self.assertEqual(Journal(disk).records(), [[1], [2], [3]])
        self.raises(OutOfRange, disk.read, 0, 65)


class Crashes(Case):
    """Point 167."""

    def check_all_crashes(self, image, change, before, after):
        """Whatever a crash behind each number of deeds keeps, the records are those before or those after."""
        seen = set()
        for count in range(6):
            disk = Disk(len(image), image)
            journal = Journal(disk)
            disk.fail_after(count)
            if count < 5:
                self.raises(PowerLost, change, journal)
            else:
                change(journal)
            many = [len(disk.versions(at)) for at in disk.loose()]
            for picks in itertools.product(*[range(number) for number in many]):
                again = Disk(len(image), image)
                opened = Journal(again)
                again.fail_after(count)
                if count < 5:
                    self.raises(PowerLost, change, opened)
                else:
                    change(opened)
                again.crash(list(picks))
                found = Journal(again).records()
                self.assertIn(found, (before, after) if count < 5 else (after,))
                seen.add(found == after)
        self.assertEqual(seen, {True, False})

    def test_every_crash_of_short_changes(self):
        for records in ([], [[1]]):
            image = filled(64, records)[0].image()
            self.check_all_crashes(image, lambda journal: journal.append([9, 8]), records, records + [[9, 8]])
            self.check_all_crashes(image, lambda journal: journal.rewrite([[7]]), records, [[7]])
            self.check_all_crashes(image, lambda journal: journal.append([]), records, records + [[]])

    def test_drawn_sequences(self):
        source = random.Random(167)
        for _ in range(400):
            size = source.choice((64, 66, 90))
            disk = Disk(size)
            journal, records = Journal(disk), []
            for _ in range(12):
                if source.randrange(2) == 0:
                    record = some_bytes(source.randrange(6), source.random())
                    wanted = records + [record]
                    change = (journal.append, record)
                else:
                    wanted = [some_bytes(source.randrange(6), source.random()) for _ in range(source.randrange(4))]
                    change = (journal.rewrite, wanted)
                allowed = [records]
                if source.randrange(2) == 0:
                    disk.fail_after(source.randrange(7))
                try:
                    change[0](change[1])
                    allowed = [wanted]
                except PowerLost:
                    allowed.append(wanted)
                except Refused:
                    pass
                if len(allowed) == 2 or source.randrange(3) == 0:
                    disk.crash([source.randrange(-3, 5) for _ in range(source.randrange(40))])
                    journal = Journal(disk)
                records = journal.records()
                self.assertIn(records, allowed)
                self.assertEqual(records, known.records(disk.image()))
