"""Points 163 and 175 to 183: leases."""

import random

import reference_keeper as known
from helpers import Case
from reference import num
from sealgrove.disk import Disk
from sealgrove.errors import Malformed, OutOfRange, PowerLost, Refused, UsedUp
from sealgrove.journal import Journal
from sealgrove.leases import Office, Signer

LAST = 2 ** 64 - 1
ERRORS = {"Refused": Refused, "UsedUp": UsedUp}


def echo(place, message):
    return [place % 256] + message


def disk_with(size, records):
    disk = Disk(size)
    journal = Journal(disk)
    for record in records:
        journal.append(record)
    return disk


def told_office(disk, office):
    return disk.image(), disk.loose(), disk.deeds(), office.leases(), office.free()


def told_signer(disk, signer):
    return disk.image(), disk.loose(), disk.deeds(), signer.wanted(), signer.left(), signer.held()


def powerless(case, disk):
    disk.fail_after(0)
    case.raises(PowerLost, disk.sync)


class Offices(Case):
    def check(self, disk, office, plain):
        last = plain.last()
        self.assertEqual(self.pure(office.leases), [last[signer] for signer in sorted(last)])
        self.assertEqual(office.free(), plain.free())
        self.assertEqual(disk.image(), plain.image[0])
        self.assertEqual(disk.loose(), [])

    def ask(self, disk, office, plain, signer, request):
        wanted = plain.ask(signer, request)
        if isinstance(wanted, str):
            self.raises(ERRORS[wanted], office.ask, signer, request)
        else:
            found = office.ask(signer, request)
            self.assertIs(type(found), tuple)
            self.assertEqual(found, wanted)
        self.check(disk, office, plain)

    def test_against_the_points(self):
        source = random.Random(177)
        for _ in range(40):
            places, span = source.choice((0, 10, 57, 500, LAST)), source.choice((1, 3, 10, 10 ** 30))
            size = source.choice((1024, 1025, 1100))
            disk, image = Disk(size), [[0] * size]
            office, plain = Office(disk, places, span), known.Lending(image, places, span)
            for _ in range(60):
                if source.randrange(20) == 0:
                    office, plain = Office(disk, places, span), known.Lending(image, places, span)
                signer = source.choice((0, 1, 2, 7, 15))
                last = plain.last().get(signer, (signer, 0))[1]
                self.ask(disk, office, plain, signer, last + source.choice((-2, -1, 0, 0, 1, 1, 1, 1, 2)))

    def test_requests(self):
        disk = Disk(1024)
        office = Office(disk, 100, 10)
        self.assertEqual((office.leases(), office.free()), ([], 0))
        # A signer without a lease has no request 0 to ask for again.
        for request in (0, -1, 2, 10 ** 5000):
            self.raises(Refused, office.ask, 3, request)
        self.assertEqual(office.ask(3, 1), (3, 1, 0, 10))
        done = disk.deeds()
        for _ in range(3):
            self.assertEqual(office.ask(3, 1), (3, 1, 0, 10))
        self.assertEqual(disk.deeds(), done)
        self.assertEqual(office.ask(5, 1), (5, 1, 10, 20))
        self.assertEqual(office.ask(3, 2), (3, 2, 20, 30))
        for request in (0, 1, 4, -10 ** 5000):
            self.raises(Refused, office.ask, 3, request)
        self.assertEqual(office.ask(3, 2), (3, 2, 20, 30))
        self.assertEqual(office.ask(5, 1), (5, 1, 10, 20))
        self.assertEqual((office.leases(), office.free()), ([(3, 2, 20, 30), (5, 1, 10, 20)], 30))

    def test_the_ends_of_the_ranges(self):
        for places, span, ranges in ((10, 4, [(0, 4), (4, 8), (8, 10)]), (8, 4, [(0, 4), (4, 8)]), (3, 5, [(0, 3)]),
                                     (3, 10 ** 5000, [(0, 3)]), (0, 1, []), (LAST, LAST, [(0, LAST)])):
            disk = Disk(1024)
            office = Office(disk, places, span)
            for k, (first, past) in enumerate(ranges):
                self.assertEqual(office.ask(0, k + 1), (0, k + 1, first, past))
            before = told_office(disk, office)
            self.raises(UsedUp, office.ask, 0, len(ranges) + 1)
            self.raises(UsedUp, office.ask, 1, 1)
            self.raises(Refused, office.ask, 1, 2)
            self.assertEqual(told_office(disk, office), before)
            if ranges:
                self.assertEqual(office.ask(0, len(ranges)), (0, len(ranges), *ranges[-1]))

    def test_the_rewriting_when_the_disk_is_full(self):
        """There is room for 23 records of 22 bytes in 506 bytes."""
        disk = Disk(1024)
        office = Office(disk, 10000, 1)
        for signer in (4, 2, 9):
            office.ask(signer, 1)
        for request in range(2, 22):
            office.ask(2, request)
        self.assertEqual(len(known.records(disk.image())), 23)
        office.ask(4, 2)
        leases = [(9, 1, 2, 3), (2, 21, 22, 23), (4, 2, 23, 24)]
        self.assertEqual(known.records(disk.image()), [known.lease_record(lease[0], lease) for lease in leases])
        again = Office(disk, 10000, 1)
        self.assertEqual((again.leases(), again.free()), (sorted(leases), 24))
        self.assertEqual(again.ask(9, 2), (9, 2, 24, 25))

    def test_all_signers_have_room(self):
        disk = Disk(1024)
        office = Office(disk, 10 ** 6, 3)
        for request in range(1, 6):
            for signer in reversed(range(16)):
                self.assertEqual(office.ask(signer, request)[:2], (signer, request))
        self.assertEqual([lease[0] for lease in office.leases()], list(range(16)))
        self.assertEqual(Office(disk, 10 ** 6, 3).leases(), office.leases())

    def test_bounds(self):
        self.assertEqual(Office(Disk(1024), 0, 1).free(), 0)
        self.assertEqual(Office(Disk(65536), LAST, 10 ** 5000).free(), 0)
        for disk, places, span in ((Disk(1023), 10, 1), (Disk(64), 10, 1), (Disk(1024), -1, 1),
                                   (Disk(1024), LAST + 1, 1), (Disk(1024), 10 ** 5000, 1), (Disk(1024), 10, 0),
                                   (Disk(1024), 10, -10 ** 5000), (Disk(1024, [9] * 1024), 10, 0),
                                   (Disk(1024, [9] * 1024), -1, 1), (Disk(1023, [9] * 1023), 10, 1)):
            self.raises(OutOfRange, Office, disk, places, span)
        office = Office(Disk(1024), 10, 1)
        for signer in (-1, 16, 10 ** 5000, -10 ** 5000):
            self.raises(OutOfRange, office.ask, signer, 1)
            self.raises(OutOfRange, office.ask, signer, 7)
        self.assertEqual(office.ask(15, 1), (15, 1, 0, 1))
        self.assertEqual(office.ask(0, 1), (0, 1, 1, 2))

    def test_journals_that_are_refused(self):
        good = known.lease_record(1, (1, 1, 0, 5))
        wrong = (good[:-1], good + [0], [], [1], known.lease_record(16, (16, 1, 0, 5)),
                 known.lease_record(255, (255, 1, 0, 5)), known.lease_record(1, (1, 0, 0, 5)),
                 known.lease_record(1, (1, 1, 5, 5)), known.lease_record(1, (1, 1, 6, 5)),
                 known.lease_record(1, (1, 1, 5, 11)), known.lease_record(1, (1, 1, 0, LAST)))
        for record in wrong:
            for records in ([record], [good, record], [record, good]):
                disk = disk_with(1024, records)
                older = Journal(disk)
                before = disk.image()
                self.raises(Malformed, Office, disk, 10, 1)
                self.assertEqual((disk.image(), older.is_stale()), (before, False))
        self.raises(Malformed, Office, Disk(1024, [9] * 1024), 10, 1)
        # The last request of a signer may be any one, and the ranges may lie anywhere.
        office = Office(disk_with(1024, [known.lease_record(15, (15, 2 ** 32 - 1, 3, 10)), good]), 10, 1)
        self.assertEqual((office.leases(), office.free()), ([(1, 1, 0, 5), (15, 2 ** 32 - 1, 3, 10)], 10))
        self.assertEqual(office.ask(15, 2 ** 32 - 1), (15, 2 ** 32 - 1, 3, 10))

    def test_great_places(self):
        for first, past in ((LAST - 3, LAST), (2 ** 56, 2 ** 56 + 5), (2 ** 63 + 1, LAST - 1)):
            office = Office(disk_with(1024, [known.lease_record(7, (7, 2 ** 24 + 1, first, past))]), LAST, 2)
            self.assertEqual((office.leases(), office.free()), ([(7, 2 ** 24 + 1, first, past)], past))
            disk = Disk(512)
            signer = Signer(disk, 7, echo, 2)
            signer.take((7, 1, first, past))
            self.assertEqual(signer.sign([])[0], first)
            again = Signer(disk, 7, echo, 2)
            self.assertEqual((again.held(), again.left()), ([(7, 1, first, past)], past - first - 2))
            if again.left() > 0:
                self.assertEqual(again.sign([])[0], first + 2)

    def test_the_last_record_of_a_signer_counts(self):
        records = [known.lease_record(1, (1, 5, 3, 9)), known.lease_record(1, (1, 2, 0, 3))]
        office = Office(disk_with(1024, records), 10, 4)
        self.assertEqual((office.leases(), office.free()), ([(1, 2, 0, 3)], 9))
        self.assertEqual(office.ask(1, 3), (1, 3, 9, 10))

    def test_stale_ones(self):
        for why in ("opened", "crash"):
            disk = Disk(1024)
            office = Office(disk, 10, 2)
            office.ask(1, 1)
            if why == "opened":
                Office(disk, 10, 2)
            else:
                disk.crash([])
            before = told_office(disk, office)
            # It comes before every other error, also for a lease that would be returned again.
            for signer, request in ((1, 1), (1, 2), (1, 9), (16, 1), (-1, 1)):
                self.raises(Refused, office.ask, signer, request)
            self.assertEqual(told_office(disk, office), before)

    def test_without_power(self):
        disk = Disk(1024)
        office = Office(disk, 10, 6)
        office.ask(1, 1)
        powerless(self, disk)
        before = told_office(disk, office)
        self.assertEqual(office.ask(1, 1), (1, 1, 0, 6))
        self.raises(PowerLost, office.ask, 1, 2)
        self.raises(Refused, office.ask, 1, 3)
        self.raises(OutOfRange, office.ask, 16, 1)
        self.assertEqual(told_office(disk, office), before)
        self.raises(PowerLost, Office, disk, 10, 6)
        self.raises(OutOfRange, Office, disk, 10, 0)
        disk.crash([])
        office = Office(disk, 10, 6)
        office.ask(2, 1)
        powerless(self, disk)
        self.raises(UsedUp, office.ask, 1, 2)

    def test_a_lease_that_was_recorded_is_not_lost(self):
        """Point 183: whatever a crash keeps, the same request gets the same lease, or a new one that was never seen."""
        for count in range(6):
            for picks in ([], [1] * 99, [0, 1] * 50, [1, 0] * 50):
                disk = Disk(1024)
                office = Office(disk, 100, 5)
                office.ask(1, 1)
                disk.fail_after(count)
                try:
                    found = office.ask(1, 2)
                except PowerLost:
                    found = None
                self.assertEqual(found is None, count < 5)
                disk.crash(picks)
                self.assertEqual(Office(disk, 100, 5).ask(1, 2), (1, 2, 5, 10))


class Signers(Case):
    def check(self, disk, signer, plain):
        self.assertEqual(disk.image(), plain.image[0])
        self.assertEqual(signer.wanted(), plain.wanted())
        self.assertEqual(signer.left(), len(plain.left()))
        self.assertEqual(self.pure(signer.held), plain.held())

    def take(self, signer, plain, lease):
        wanted = plain.take(lease)
        if isinstance(wanted, str):
            self.raises(ERRORS[wanted], signer.take, lease)
        else:
            self.assertIs(signer.take(lease), wanted)

    def sign(self, signer, plain):
        wanted = plain.sign()
        if isinstance(wanted, str):
            self.raises(ERRORS[wanted], signer.sign, [1])
        else:
            self.assertEqual(signer.sign([1]), (wanted, [wanted % 256, 1]))

    def test_against_the_points(self):
        source = random.Random(181)
        for _ in range(80):
            size, block = source.choice((512, 513, 520, 700)), source.choice((1, 2, 3, 10, 10 ** 30))
            own, disk, image, free = source.choice((0, 5, 15)), Disk(size), [[0] * size], 0
            signer, plain = Signer(disk, own, echo, block), known.Using(image, own, block)
            for _ in range(80):
                what = source.randrange(9)
                if what < 2:
                    first = free + source.choice((0, 0, 2))
                    lease = (own, plain.wanted(), first, first + source.randrange(1, 7))
                    if len(plain.held()) < 8:
                        free = lease[3]
                    self.take(signer, plain, lease)
                elif what < 3:
                    wrong = (source.choice((own, 3)), plain.wanted() + source.choice((-1, 1, 2)), free, free + 3)
                    self.take(signer, plain, wrong)
                    self.take(signer, plain, (own + 1, plain.wanted(), free, free + 3))
                elif what < 4 and source.randrange(3) == 0:
                    signer, plain = Signer(disk, own, echo, block), known.Using(image, own, block)
                else:
                    self.sign(signer, plain)
                self.check(disk, signer, plain)

    def test_a_new_signer(self):
        signer = Signer(Disk(512), 3, echo, 4)
        self.assertEqual((signer.wanted(), signer.left(), signer.held()), (1, 0, []))
        self.raises(UsedUp, signer.sign, [])

    def test_leases_that_are_left_alone(self):
        disk = Disk(512)
        signer = Signer(disk, 3, echo, 4)
        self.assertIs(signer.take((3, 1, 10, 13)), True)
        before = told_signer(disk, signer)
        for lease in ((3, 1, 10, 13), (3, 0, 10, 13), (3, 3, 10, 13), (4, 2, 10, 13), (2, 1, 0, 1), (3, 1, 5, 5),
                      (4, 2, -1, -2), (3, 3, 0, LAST + 1), (16, 2, 0, 1), (3, 10 ** 5000, 0, 1)):
            self.assertIs(signer.take(lease), False)
        self.assertEqual(told_signer(disk, signer), before)

    def test_ranges_that_are_none(self):
        disk = Disk(512)
        signer = Signer(disk, 3, echo, 4)
        before = told_signer(disk, signer)
        for first, past in ((-1, 5), (5, 5), (6, 5), (0, 0), (0, LAST + 1), (LAST, LAST + 1), (LAST, LAST),
                            (-2, -1), (0, 10 ** 5000), (-10 ** 5000, 1)):
            self.raises(OutOfRange, signer.take, (3, 1, first, past))
        self.assertEqual(told_signer(disk, signer), before)
        self.assertIs(signer.take((3, 1, LAST - 1, LAST)), True)
        self.assertEqual(signer.sign([]), (LAST - 1, [254]))

    def test_the_ninth_lease(self):
        disk = Disk(512)
        signer = Signer(disk, 3, echo, 4)
        for request in range(1, 9):
            self.assertIs(signer.take((3, request, 10 * request, 10 * request + 2)), True)
        before = told_signer(disk, signer)
        self.raises(Refused, signer.take, (3, 9, 100, 102))
        # A range that is none comes before it, and other leases are left alone.
        self.raises(OutOfRange, signer.take, (3, 9, 100, 100))
        self.assertIs(signer.take((3, 10, 100, 102)), False)
        self.assertEqual(told_signer(disk, signer), before)
        signer.sign([])
        self.raises(Refused, signer.take, (3, 9, 100, 102))
        signer.sign([])
        # The first lease has no place left now.
        self.assertIs(signer.take((3, 9, 100, 102)), True)
        self.assertEqual(signer.left(), 16)

    def test_records(self):
        disk = Disk(512)
        signer = Signer(disk, 3, echo, 2)
        signer.take((3, 1, 10, 13))
        signer.take((3, 2, 50, 51))
        records = [known.lease_record(1, (3, 1, 10, 13)), known.lease_record(1, (3, 2, 50, 51))]
        self.assertEqual(known.records(disk.image()), records)
        for place, position in ((10, (1, 12)), (11, None), (12, (1, 13)), (50, (2, 51))):
            self.assertEqual(signer.sign([])[0], place)
            if position is not None:
                records.append(known.position_record(*position))
            self.assertEqual(known.records(disk.image()), records)
        self.raises(UsedUp, signer.sign, [])

    def test_the_rewriting_drops_what_is_finished(self):
        """There is room for eleven records of leases, 22 bytes each, in 250 bytes."""
        disk = Disk(512)
        signer = Signer(disk, 3, echo, 1)
        for request in range(1, 7):
            signer.take((3, request, request, request + 1))
        for _ in range(6):
            signer.sign([])
        self.assertEqual(known.area_size(512) - len(known.forms(known.records(disk.image()))), 34)
        signer.take((3, 7, 70, 75))
        signer.take((3, 8, 80, 81))
        # The position belongs to no lease that is left.
        self.assertEqual(known.records(disk.image()),
                         [known.lease_record(1, (3, 7, 70, 75)), known.lease_record(1, (3, 8, 80, 81))])
        again = Signer(disk, 3, echo, 1)
        self.assertEqual((again.wanted(), again.left(), again.held()), (9, 6, [(3, 7, 70, 75), (3, 8, 80, 81)]))
        self.assertEqual(again.sign([])[0], 70)

    def test_the_rewriting_keeps_the_position(self):
        for what in ("take", "sign"):
            disk = Disk(512)
            signer = Signer(disk, 3, echo, 1)
            signer.take((3, 1, 0, 1))
            signer.take((3, 2, 10, 100))
            used = [signer.sign([])[0] for _ in range(14)]
            self.assertEqual(used, [0] + list(range(10, 23)))
            self.assertEqual(len(known.records(disk.image())), 16)
            self.assertEqual(signer.wanted(), 3)
            if what == "take":
                signer.take((3, 3, 200, 201))
                records = [known.lease_record(1, (3, 2, 10, 100)), known.lease_record(1, (3, 3, 200, 201)),
                           known.position_record(2, 23)]
            else:
                signer.sign([])
                records = [known.lease_record(1, (3, 2, 10, 100)), known.position_record(2, 24)]
            if known.records(disk.image()) != records:
                self.fail(known.records(disk.image()))

    def test_sign_functions_that_raise_errors(self):
        tried = []

        def sign(place, message):
            tried.append(place)
            raise KeyError(place)

        signer = Signer(Disk(512), 0, sign, 2)
        signer.take((0, 1, 3, 6))
        for left in (2, 1, 0):
            self.raises(KeyError, signer.sign, [])
            self.assertEqual(signer.left(), left)
        self.raises(UsedUp, signer.sign, [])
        self.assertEqual(tried, [3, 4, 5])

    def test_what_the_sign_function_is_passed(self):
        signer = Signer(Disk(512), 0, lambda place, message: message, 2)
        signer.take((0, 1, 3, 6))
        message = [1, 2]
        place, signature = signer.sign(message)
        self.assertEqual((place, signature), (3, [1, 2]))
        self.assertIsNot(signature, message)

    def test_bounds(self):
        for number in (0, 15):
            self.assertEqual(Signer(Disk(512), number, echo, 1).left(), 0)
        self.assertEqual(Signer(Disk(65536), 0, echo, 10 ** 5000).left(), 0)
        bad = Disk(512, [9] * 512)
        for disk, number, block in ((Disk(511), 0, 1), (Disk(64), 0, 1), (Disk(512), -1, 1), (Disk(512), 16, 1),
                                    (Disk(512), 10 ** 5000, 1), (Disk(512), 0, 0), (Disk(512), 0, -10 ** 5000),
                                    (bad, 16, 1), (bad, 0, 0), (Disk(511, [9] * 511), 0, 1)):
            self.raises(OutOfRange, Signer, disk, number, echo, block)
        self.raises(Malformed, Signer, bad, 0, echo, 1)

    def test_great_blocks(self):
        disk = Disk(512)
        signer = Signer(disk, 0, echo, 10 ** 5000)
        signer.take((0, 1, 3, 6))
        signer.sign([])
        self.assertEqual(known.records(disk.image())[-1], known.position_record(1, 6))
        again = Signer(disk, 0, echo, 1)
        self.assertEqual((again.left(), again.held(), again.wanted()), (0, [], 2))


class Positions(Case):
    def opened(self, records):
        return Signer(disk_with(512, records), 3, echo, 1)

    def test_where_signers_go_on(self):
        one, two, three = (known.lease_record(1, (3, request, 10 * request, 10 * request + 3)) for request in (5, 6, 7))
        for records, held, left, place in (
                ([one, two], [5, 6], 6, 50), ([one, known.position_record(5, 50), two], [5, 6], 6, 50),
                ([one, two, known.position_record(5, 51)], [5, 6], 5, 51),
                ([one, two, known.position_record(5, 53)], [6], 3, 60),
                ([one, known.position_record(5, 53), two], [6], 3, 60),
                ([one, two, known.position_record(6, 60)], [6], 3, 60),
                ([one, two, known.position_record(5, 51), three, known.position_record(6, 62)], [6, 7], 4, 62),
                ([one, two, three, known.position_record(7, 73)], [], 0, None)):
            signer = self.opened(records)
            self.assertEqual([lease[1] for lease in signer.held()], held)
            self.assertTrue(all(lease[0] == 3 for lease in signer.held()))
            self.assertEqual(signer.left(), left)
            self.assertEqual(signer.wanted(), 8 if three in records else 7)
            if place is None:
                self.raises(UsedUp, signer.sign, [])
            else:
                self.assertEqual(signer.sign([])[0], place)

    def test_journals_that_are_refused(self):
        lease = known.lease_record
        one, two = lease(1, (3, 5, 50, 53)), lease(1, (3, 6, 60, 63))
        at = known.position_record
        wrong = (
            # Other forms.
            [[]], [[1]], [[2]], [one[:-1]], [one + [0]], [one, at(5, 50)[:-1]], [one, at(5, 50) + [0]],
            [lease(0, (3, 5, 50, 53))], [lease(2, (3, 5, 50, 53))], [lease(3, (3, 5, 50, 53))],
            [one, [1] + at(5, 50)[1:]], [one, [3] + at(5, 50)[1:]], [one, [0] + at(5, 50)[1:]],
            # Requests and ranges.
            [lease(1, (3, 0, 50, 53))], [lease(1, (3, 5, 50, 50))], [lease(1, (3, 5, 51, 50))], [two, one], [one, one],
            [one, lease(1, (3, 7, 60, 63))], [one, at(5, 51), lease(1, (3, 7, 60, 63))], [one, two, one],
            # Positions.
            [at(5, 50)], [at(5, 50), one], [one, at(4, 50)], [one, at(6, 60), two], [one, at(0, 0)], [one, at(5, 49)],
            [one, at(5, 54)], [one, two, at(6, 53)], [one, two, at(6, 60), at(5, 53)], [one, at(5, 52), at(5, 51)],
            [one, two, at(5, 53), at(6, 64)], [one, two, at(6, 61), at(6, 60)], [one, at(5, LAST)],
        )
        for records in wrong:
            disk = disk_with(512, records)
            older = Journal(disk)
            before = disk.image()
            with self.subTest(records=records):
                self.raises(Malformed, Signer, disk, 3, echo, 1)
                self.assertEqual((disk.image(), older.is_stale()), (before, False))
        for records in ([one, at(5, 50), at(5, 50), at(5, 53), two, at(6, 60)], [one, two, at(5, 51), at(6, 60)],
                        [lease(1, (3, 2 ** 32 - 1, 0, LAST))], [lease(1, (3, 1, 60, 63)), lease(1, (3, 2, 50, 53))]):
            self.assertGreater(self.opened(records).left(), 0)


class Stale(Case):
    def test_everything_is_refused(self):
        for why in ("opened", "crash"):
            disk = Disk(512)
            signer = Signer(disk, 3, echo, 2)
            signer.take((3, 1, 0, 5))
            signer.sign([])
            if why == "opened":
                Signer(disk, 3, echo, 2)
            else:
                disk.crash([])
            before = told_signer(disk, signer)
            self.raises(Refused, signer.sign, [])
            # It comes before every other error, and also for leases that would be left alone.
            for lease in ((3, 2, 5, 9), (3, 2, 5, 5), (3, 1, 0, 5), (4, 2, 5, 9), (3, 9, 5, 9), (3, 2, -1, LAST + 1)):
                self.raises(Refused, signer.take, lease)
            self.assertEqual(told_signer(disk, signer), before)

    def test_without_power(self):
        disk = Disk(512)
        signer = Signer(disk, 3, echo, 2)
        signer.take((3, 1, 0, 5))
        signer.sign([])
        powerless(self, disk)
        self.assertEqual(signer.sign([])[0], 1)
        before = told_signer(disk, signer)
        self.raises(PowerLost, signer.sign, [])
        self.raises(PowerLost, signer.take, (3, 2, 5, 9))
        self.raises(OutOfRange, signer.take, (3, 2, 5, 5))
        self.assertIs(signer.take((3, 3, 5, 9)), False)
        self.assertEqual(told_signer(disk, signer), before)
        self.raises(PowerLost, Signer, disk, 3, echo, 2)
        self.raises(OutOfRange, Signer, disk, 3, echo, 0)
        disk.crash([])
        signer = Signer(disk, 3, echo, 2)
        signer.sign([])
        signer.sign([])
        signer.sign([])
        powerless(self, disk)
        self.raises(UsedUp, signer.sign, [])


def is_off(disk):
    try:
        disk.read(0, 0)
    except PowerLost:
        return True
    return False


class Together(Case):
    """Points 182 and 183."""

    def play(self, source):
        places, span = source.choice((20, 300, 5000)), source.choice((1, 4, 13))
        office_disk, disks = Disk(source.choice((1024, 1200))), [Disk(source.choice((512, 530))) for _ in range(4)]
        blocks, used, answers, granted = [1, 2, 3, 20], [], [], []
        signers, office = [None] * 4, None
        lost = [0] * 4

        def opened(k):
            return Signer(disks[k], k, lambda place, message: used.append((k, place)), blocks[k])

        def dropped(k):
            if signers[k] is not None:
                # Opening loses at most block places; a lease whose taking did not return may have arrived, too.
                before, newer = signers[k], opened(k)
                came = newer.wanted() - before.wanted()
                extra = sum(lease[3] - lease[2] for lease in newer.held()[len(newer.held()) - came:]) if came else 0
                self.assertIn(came, (0, 1))
                lost[k] = before.left() + extra - newer.left()
                self.assertTrue(0 <= lost[k] <= blocks[k], (lost[k], blocks[k]))
                signers[k] = newer
            else:
                signers[k] = opened(k)

        def crashed(disk):
            disk.crash([source.randrange(-2, 4) for _ in range(source.randrange(40))])

        for _ in range(300):
            what, k = source.randrange(30), source.randrange(4)
            try:
                if what == 0 or office is None:
                    office = Office(office_disk, places, span)
                elif what == 1 or signers[k] is None:
                    dropped(k)
                elif what == 2:
                    disk = source.choice(disks + [office_disk])
                    disk.fail_after(source.choice((0, 1, 2, 3, 4, 5, 9)))
                elif what == 3:
                    crashed(source.choice(disks + [office_disk]))
                elif what < 9:
                    lease = office.ask(k, signers[k].wanted() + source.choice((0, 0, 0, 0, -1, 1)))
                    granted.append(lease)
                    # Answers may be late, lost, doubled, and come to the wrong signer.
                    answers.extend([lease] * source.choice((0, 1, 1, 2)))
                elif what < 15 and answers:
                    lease = source.choice(answers)
                    to = source.choice((lease[0], lease[0], lease[0], k))
                    if signers[to] is not None and signers[to].take(lease):
                        self.assertEqual(lease[0], to)
                else:
                    signers[k].sign([])
            except PowerLost:
                for disk in disks + [office_disk]:
                    if is_off(disk) and source.randrange(3) > 0:
                        crashed(disk)
            except Refused:
                if source.randrange(2) == 0:
                    office = None
                elif not is_off(disks[k]):
                    dropped(k)
            except UsedUp:
                pass
        return used, granted

    def test_drawn_sequences(self):
        source = random.Random(182)
        many = 0
        for _ in range(120):
            used, granted = self.play(source)
            ranges = {}
            for signer, request, first, past in granted:
                # Each request of a signer has one lease.
                self.assertEqual(ranges.setdefault((signer, request), (first, past)), (first, past))
            spans = sorted(ranges.values())
            for (_, past), (first, _) in zip(spans, spans[1:]):
                self.assertLessEqual(past, first)
            places = [place for _, place in used]
            self.assertEqual(len(places), len(set(places)))
            for k, place in used:
                self.assertTrue(any(signer == k and first <= place < past for signer, _, first, past in granted))
            many += len(used)
        self.assertGreater(many, 2000)
