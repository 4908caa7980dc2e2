"""Points 160 to 163: disks, crashes, failures of the power, and users."""

import random

from helpers import Case, frozen, some_bytes
from sealgrove.disk import Disk
from sealgrove.errors import Malformed, OutOfRange, PowerLost


class Plain:
    """A disk by the words of the points: a list of versions for each byte."""

    def __init__(self, data):
        self.versions = [[byte] for byte in data]

    def write(self, at, data):
        for k, byte in enumerate(data):
            self.versions[at + k].append(byte)

    def sync(self):
        self.versions = [[found[-1]] for found in self.versions]

    def loose(self):
        return [at for at, found in enumerate(self.versions) if len(found) > 1]

    def crash(self, picks):
        for k, at in enumerate(self.loose()):
            found = self.versions[at]
            self.versions[at] = [found[picks[k] % len(found)] if k < len(picks) else found[0]]

    def image(self):
        return [found[-1] for found in self.versions]


def told(disk):
    """All that a disk tells, also while its power is off."""
    return disk.deeds(), disk.loose(), disk.image(), [disk.versions(at) for at in range(disk.size)]


class Making(Case):
    def test_sizes(self):
        for size in (64, 65, 1000, 65535, 65536):
            disk = Disk(size)
            self.assertEqual((disk.size, disk.image(), disk.loose(), disk.deeds()), (size, [0] * size, [], 0))
        for size in (63, 0, -1, -64, 65537, 10 ** 5000):
            self.raises(OutOfRange, Disk, size)
            self.raises(OutOfRange, Disk, size, [])
            self.raises(OutOfRange, Disk, size, [256])

    def test_images(self):
        image = some_bytes(70)
        disk = Disk(70, image)
        self.assertEqual(disk.image(), image)
        self.assertEqual([disk.versions(at) for at in range(70)], [[byte] for byte in image])
        self.assertEqual(Disk(70, None).image(), [0] * 70)
        for wrong in ([], image[:-1], image + [0], image[:-1] + [256], image[:-1] + [-1], image[:-1] + [True],
                      image[:-1] + [None], tuple(image), "a" * 70, bytes(image), 0, [[0]] * 70):
            self.raises(Malformed, Disk, 70, wrong)

    def test_the_image_is_copied(self):
        image = some_bytes(64)
        disk = Disk(64, image)
        kept = list(image)
        image[3] += 1
        self.assertEqual(disk.image(), kept)
        for found in (disk.image(), disk.read(0, 64), disk.versions(3), disk.loose()):
            found.append(1)
            found[0] = 777
        self.assertEqual(told(disk), (0, [], kept, [[byte] for byte in kept]))


class Bytes(Case):
    def test_writes_and_reads_at_the_bounds(self):
        for size in (64, 99):
            for at, data in ((0, [1]), (size - 1, [2]), (0, some_bytes(size)), (size - 3, [7, 8, 9]), (size, []), (5, [])):
                disk = Disk(size)
                disk.write(at, data)
                after = [0] * size
                after[at:at + len(data)] = data
                self.assertEqual(disk.image(), after)
                self.assertEqual(disk.loose(), list(range(at, at + len(data))))
                self.assertEqual(disk.deeds(), 1)
                self.assertEqual(disk.read(at, len(data)), data)
                self.assertEqual(disk.read(0, size), after)

    def test_what_is_beyond(self):
        disk = Disk(64, some_bytes(64))
        disk.fail_after(2)
        before = told(disk)
        for at, data in ((-1, [1]), (-1, []), (64, [1]), (63, [1, 2]), (65, []), (0, [1] * 65), (10 ** 5000, []),
                         (-10 ** 5000, [1]), (-64, [1])):
            self.raises(OutOfRange, disk.write, at, data)
            self.raises(OutOfRange, disk.read, at, len(data))
        self.raises(OutOfRange, disk.read, 3, -1)
        self.raises(OutOfRange, disk.read, 0, 10 ** 5000)
        self.raises(OutOfRange, disk.read, 64, -64)
        for at in (-1, 64, 65, -64, 10 ** 5000):
            self.raises(OutOfRange, disk.versions, at)
        # A write that raises OutOfRange is no deed: two more succeed.
        self.assertEqual(told(disk), before)
        disk.write(0, [1])
        disk.sync()
        self.raises(OutOfRange, disk.write, 64, [1])
        self.raises(PowerLost, disk.write, 0, [2])

    def test_versions(self):
        disk = Disk(64, [5] * 64)
        disk.write(2, [5, 6])
        disk.write(3, [5])
        disk.write(3, [6, 6])
        self.assertEqual([disk.versions(at) for at in range(1, 6)], [[5], [5, 5], [5, 6, 5, 6], [5, 6], [5]])
        # A byte with equal versions is loose, too.
        self.assertEqual(disk.loose(), [2, 3, 4])
        disk.sync()
        self.assertEqual(disk.loose(), [])
        self.assertEqual([disk.versions(at) for at in range(1, 6)], [[5], [5], [6], [6], [5]])

    def test_what_is_written_is_copied(self):
        disk = Disk(64)
        data = [1, 2]
        disk.write(0, data)
        data[0] = 9
        self.assertEqual(disk.read(0, 2), [1, 2])


class Crashes(Case):
    def test_each_pick(self):
        for pick in range(-9, 10):
            disk = Disk(64, [1] * 64)
            disk.write(10, [2])
            disk.write(10, [3, 4])
            disk.crash([pick, pick])
            self.assertEqual(disk.read(10, 2), [[1, 2, 3][pick % 3], [1, 4][pick % 2]])
            self.assertEqual(disk.loose(), [])
            self.assertEqual(disk.versions(10), disk.read(10, 1))
            self.assertEqual(disk.deeds(), 2)

    def test_too_few_and_too_many_picks(self):
        for picks, after in (([], [0, 0, 0]), ([1], [7, 0, 0]), ([1, 1], [7, 8, 0]), ([0, 0, 1], [0, 0, 9]),
                             ([1, 1, 1, 0, 0], [7, 8, 9]), ([10 ** 5000 + 1], [7, 0, 0])):
            disk = Disk(64)
            disk.write(20, [7, 8, 9])
            disk.crash(picks)
            self.assertEqual(disk.read(20, 3), after)

    def test_loose_bytes_with_equal_versions_take_a_pick(self):
        disk = Disk(64)
        disk.write(4, [0])
        disk.write(8, [1])
        disk.crash([0, 1])
        self.assertEqual(disk.read(8, 1), [1])

    def test_against_the_points(self):
        source = random.Random(160)
        for _ in range(60):
            image = [source.randrange(4) for _ in range(64)]
            disk, plain = Disk(64, image), Plain(image)
            done = 0
            for _ in range(40):
                what = source.randrange(8)
                if what < 5:
                    at = source.randrange(65)
                    data = [source.randrange(4) for _ in range(source.randrange(min(65 - at, 9)))]
                    disk.write(at, data)
                    plain.write(at, data)
                    done += 1
                elif what < 6:
                    disk.sync()
                    plain.sync()
                    done += 1
                elif what < 7:
                    picks = [source.randrange(-5, 9) for _ in range(source.randrange(20))]
                    before = list(picks)
                    disk.crash(picks)
                    self.assertEqual(picks, before)
                    plain.crash(picks)
                self.assertEqual(told(disk), (done, plain.loose(), plain.image(), plain.versions))

    def test_every_choice_comes_of_some_picks(self):
        found = set()
        for first in range(3):
            for second in range(2):
                disk = Disk(64)
                disk.write(0, [1])
                disk.write(0, [2])
                disk.write(1, [3])
                disk.crash([first, second])
                found.add(tuple(disk.read(0, 2)))
        self.assertEqual(found, {(one, other) for one in (0, 1, 2) for other in (0, 3)})


class Power(Case):
    def test_failures_after_each_number_of_deeds(self):
        for count in range(7):
            disk = Disk(64)
            disk.fail_after(count)
            for k in range(count):
                disk.read(0, 64)
                if k % 2 == 0:
                    disk.write(k, [k + 1])
                else:
                    disk.sync()
            before = told(disk)
            self.assertEqual(disk.deeds(), count)
            # Reading is no deed, and the power is still on.
            self.assertEqual(disk.read(0, 64), disk.image())
            if count % 2 == 0:
                self.raises(PowerLost, disk.write, 1, [99])
            else:
                self.raises(PowerLost, disk.sync)
            self.assertEqual(told(disk), before)

    def off(self):
        disk = Disk(64)
        disk.write(7, [1, 2])
        disk.fail_after(0)
        self.raises(PowerLost, disk.sync)
        return disk

    def test_what_the_power_is_needed_for(self):
        disk = self.off()
        before = told(disk)
        for _ in range(3):
            self.raises(PowerLost, disk.write, 0, [1])
            self.raises(PowerLost, disk.write, 0, [])
            self.raises(PowerLost, disk.sync)
            self.raises(PowerLost, disk.read, 0, 1)
            self.raises(PowerLost, disk.read, 64, 0)
            # PowerLost comes before OutOfRange while the power is off.
            self.raises(PowerLost, disk.write, 64, [1])
            self.raises(PowerLost, disk.write, -1, [])
            self.raises(PowerLost, disk.read, -1, 1)
            self.raises(PowerLost, disk.read, 0, 65)
        self.assertEqual(told(disk), before)
        self.assertEqual(before[:2], (1, [7, 8]))
        self.assertEqual(disk.versions(7), [0, 1])
        self.raises(OutOfRange, disk.versions, 64)

    def test_failures_that_are_set_while_the_power_is_off(self):
        for count in (None, 0, 1, 5):
            disk = self.off()
            disk.fail_after(count)
            self.raises(PowerLost, disk.sync)
            self.raises(PowerLost, disk.read, 0, 1)
            disk.crash([1])
            # A crash switches the power on, and no failure is set any more.
            for _ in range(9):
                disk.sync()
            self.assertEqual(disk.read(7, 2), [1, 0])
            self.assertEqual(disk.deeds(), 10)

    def test_failures_that_are_set_anew(self):
        disk = Disk(64)
        disk.fail_after(1)
        disk.sync()
        disk.fail_after(2)
        disk.sync()
        disk.sync()
        disk.fail_after(None)
        disk.sync()
        disk.fail_after(1)
        disk.write(0, [1])
        self.raises(PowerLost, disk.sync)

    def test_a_failure_that_a_crash_takes_back(self):
        disk = Disk(64)
        disk.fail_after(1)
        disk.crash([])
        disk.sync()
        disk.sync()
        self.assertEqual(disk.deeds(), 2)

    def test_negative_numbers(self):
        disk = Disk(64)
        disk.fail_after(1)
        for count in (-1, -10 ** 5000):
            self.raises(OutOfRange, disk.fail_after, count)
        disk.sync()
        self.raises(PowerLost, disk.sync)
        self.raises(OutOfRange, disk.fail_after, -1)

    def test_a_crash_while_the_power_is_on(self):
        disk = Disk(64)
        disk.write(0, [1])
        disk.crash([])
        self.assertEqual(disk.read(0, 1), [0])
        disk.write(0, [2])
        disk.sync()
        disk.crash([])
        self.assertEqual(disk.read(0, 1), [2])


class Users(Case):
    def test_claims(self):
        disk = Disk(64)
        for number in (-1, 0, 1, 2):
            self.assertIs(disk.is_user(number), False)
        numbers = []
        for _ in range(5):
            number = disk.claim()
            self.assertTrue(all(number > other for other in numbers))
            self.assertIs(disk.is_user(number), True)
            self.assertFalse([other for other in numbers if disk.is_user(other)])
            numbers.append(number)
        self.assertIs(disk.is_user(max(numbers) + 1), False)

    def test_a_crash_makes_the_user_stale(self):
        disk = Disk(64)
        first = disk.claim()
        disk.crash([])
        self.assertIs(disk.is_user(first), False)
        second = disk.claim()
        self.assertGreater(second, first)
        self.assertIs(disk.is_user(first), False)
        self.assertIs(disk.is_user(second), True)

    def test_users_while_the_power_is_off(self):
        disk = Disk(64)
        first = disk.claim()
        disk.fail_after(0)
        self.raises(PowerLost, disk.sync)
        self.assertIs(disk.is_user(first), True)
        second = disk.claim()
        self.assertEqual((disk.is_user(first), disk.is_user(second)), (False, True))
        self.assertEqual(disk.deeds(), 0)

    def test_what_a_user_does_to_the_bytes(self):
        disk = Disk(64, some_bytes(64))
        before = frozen(told(disk))
        disk.claim()
        self.assertEqual(frozen(told(disk)), before)
