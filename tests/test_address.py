"""Point 102: addresses and their forms."""

import random

import reference_stateless as reference
from helpers import Case
from sealgrove.address import address_of, long_form, short_form
from sealgrove.errors import Malformed, OutOfRange

BOUNDS = (255, 2 ** 64 - 1, 6, 2 ** 32 - 1, 2 ** 32 - 1, 2 ** 32 - 1)


def samples():
    yield (0,) * 6
    yield BOUNDS
    for at in range(6):
        for number in (1, BOUNDS[at] // 3, BOUNDS[at] - 1, BOUNDS[at]):
            yield tuple(number if k == at else 0 for k in range(6))
            yield tuple(number if k == at else BOUNDS[k] for k in range(6))
    source = random.Random(5)
    for _ in range(200):
        yield tuple(source.randrange(bound + 1) for bound in BOUNDS)


class Forms(Case):
    def test_forms(self):
        for address in samples():
            self.assertEqual(self.pure(long_form, address), reference.long_form(address))
            self.assertEqual(self.pure(short_form, address), reference.short_form(address))
            self.assertEqual((len(long_form(address)), len(short_form(address))), (32, 22))

    def test_forms_written_out(self):
        address = (1, 0x0203, 4, 0x05060708, 0x090A0B0C, 0x0D0E0F10)
        tail = list(range(5, 17))
        self.assertEqual(long_form(address), [0, 0, 0, 1] + [0] * 10 + [2, 3, 0, 0, 0, 4] + tail)
        self.assertEqual(short_form(address), [1] + [0] * 6 + [2, 3, 4] + tail)

    def test_numbers_beyond_their_bounds(self):
        for at in range(6):
            for number in (-1, BOUNDS[at] + 1, 2 * BOUNDS[at] + 2, -2 ** 70, 2 ** 96, 10 ** 5000):
                address = tuple(number if k == at else 0 for k in range(6))
                self.raises(OutOfRange, long_form, address)
                self.raises(OutOfRange, short_form, address)

    def test_what_is_no_tuple_of_six_integers(self):
        for address in ((), (0,) * 5, (0,) * 7, [0] * 6, (0, 0, 0, 0, 0, None), (0, 0, 0, 0, 0, "0"), (True,) + (0,) * 5,
                        (0, 0, 0, 0, 0, [0]), (0, 0, False, 0, 0, 0), (0, 0, 0, 0, 0, 0.0), None, 0, "000000"):
            self.raises(OutOfRange, long_form, address)
            self.raises(OutOfRange, short_form, address)


class Reading(Case):
    def test_there_and_back(self):
        for address in samples():
            found = self.pure(address_of, short_form(address))
            self.assertEqual(found, address)
            self.assertIs(type(found), tuple)

    def test_different_addresses_have_different_short_forms(self):
        found = set(samples())
        self.assertEqual(len({tuple(short_form(address)) for address in found}), len(found))

    def test_other_lists(self):
        for data in ([], [0] * 21, [0] * 23, [0] * 32, [0] * 44):
            self.raises(Malformed, address_of, data)
        for address in samples():
            data = short_form(address)
            self.raises(Malformed, address_of, data[:-1])
            self.raises(Malformed, address_of, data[1:])
            self.raises(Malformed, address_of, data + [0])
            self.raises(Malformed, address_of, long_form(address))
            for use in (7, 8, 100, 255):
                self.raises(Malformed, address_of, data[:9] + [use] + data[10:])
            for use in range(7):
                self.assertEqual(address_of(data[:9] + [use] + data[10:])[2], use)
