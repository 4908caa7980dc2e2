"""Leases: several signers share one key, and an office lends them ranges of its places."""

from sealgrove.common import LAST_U64, need_at_least, need_within, passed_on
from sealgrove.errors import Malformed, OutOfRange, Refused, UsedUp
from sealgrove.journal import Journal, stored_records
from sealgrove.octets import big, number_of, u8, u32

LAST_SIGNER = 15
SMALLEST_OFFICE = 1024
SMALLEST_SIGNER = 512
MOST_LEASES = 8

TAKEN = 1
POSITION = 2
# The sizes of the records of leases, of both kinds of journals, and of positions.
LEASE_SIZE = 21
POSITION_SIZE = 13


def need_disk(disk, size):
    """Refuse a disk that is too small."""
    if disk.size < size:
        raise OutOfRange(f"the disk has less than {size} bytes")


def need_form(holds):
    """Refuse a journal for which a rule does not hold."""
    if not holds:
        raise Malformed("the records are not those of a journal of leases")


def lease_record(first_byte, lease):
    """Return the record of a lease, which begins with the number of its signer, or with the kind of the record."""
    _, request, first, past = lease
    return u8(first_byte) + u32(request) + big(first, 8) + big(past, 8)


def lease_in(record):
    """Return the request and the range of a record of a lease."""
    need_form(len(record) == LEASE_SIZE)
    return number_of(record[1:5]), number_of(record[5:13]), number_of(record[13:])


def position_record(position):
    """Return the record of a position, which is a request and a limit."""
    request, limit = position
    return u8(POSITION) + u32(request) + big(limit, 8)


def lent_leases(records, places):
    """Return the leases of the records of an office."""
    leases = []
    for record in records:
        request, first, past = lease_in(record)
        need_form(record[0] <= LAST_SIGNER and request >= 1 and first < past <= places)
        leases.append((record[0], request, first, past))
    return leases


class Office:
    """Lends each place of a key once."""

    def __init__(self, disk, places, span):
        need_disk(disk, SMALLEST_OFFICE)
        need_within(places, 0, LAST_U64, "the number of places")
        need_at_least(span, 1, "the span")
        # The records are looked at before the journal is opened: what cannot be opened does not become the user.
        leases = lent_leases(stored_records(disk), places)
        self._last = {lease[0]: lease for lease in leases}
        self._free = max([lease[3] for lease in leases], default=0)
        self._places = places
        self._span = span
        self._journal = Journal(disk)

    def ask(self, signer, request):
        """Return the lease of a signer for a request."""
        self._journal.need_user()
        need_within(signer, 0, LAST_SIGNER, "the signer")
        last_request = 0
        if signer in self._last:
            last_request = self._last[signer][1]
            if request == last_request:
                return self._last[signer]
        if request != last_request + 1:
            raise Refused("the request is neither the last one nor the one behind it")
        if self._free == self._places:
            raise UsedUp("there is no free place")
        lease = signer, request, self._free, min(self._free + self._span, self._places)
        self._keep_lease(lease)
        self._last[signer] = lease
        self._free = lease[3]
        return lease

    def _keep_lease(self, lease):
        others = [other for other in self.leases() if other[0] != lease[0]]
        leases = sorted(others + [lease], key=lambda held: held[2])
        records = [lease_record(held[0], held) for held in leases]
        self._journal.put(lease_record(lease[0], lease), records)

    def leases(self):
        """Return the last leases of all signers, in the order of the signers."""
        return [self._last[signer] for signer in sorted(self._last)]

    def free(self):
        """Return the first free place."""
        return self._free


def taken_leases(number, records):
    """Return the leases that the records of a signer tell, and the last position, or None."""
    leases = []
    position = None
    for record in records:
        if len(record) == POSITION_SIZE and record[0] == POSITION:
            later = number_of(record[1:5]), number_of(record[5:])
            need_form(any([is_limit(lease, later) for lease in leases]))
            need_form(position is None or later >= position)
            position = later
        else:
            request, first, past = lease_in(record)
            need_form(record[0] == TAKEN and request >= 1 and first < past)
            need_form(not leases or request == leases[-1][1] + 1)
            leases.append((number, request, first, past))
    return leases, position


def is_limit(lease, position):
    """Tell whether the position belongs to the lease, with a limit that lies in it."""
    _, request, first, past = lease
    return position[0] == request and first <= position[1] <= past


class Signer:
    """Signs at the places of the leases that it has taken."""

    def __init__(self, disk, number, sign, block):
        need_disk(disk, SMALLEST_SIGNER)
        need_within(number, 0, LAST_SIGNER, "the number of the signer")
        need_at_least(block, 1, "the block")
        # The records are looked at before the journal is opened: what cannot be opened does not become the user.
        leases, position = taken_leases(number, stored_records(disk))
        self._number = number
        self._sign = sign
        self._block = block
        self._wanted = leases[-1][1] + 1 if leases else 1
        self._position = position
        # The leases that have a place left, and the next place, which lies in the first of them.
        self._held = [lease for lease in leases if self._limit_in(lease) < lease[3]]
        self._next = self._first_place()
        self._journal = Journal(disk)

    def _limit_in(self, lease):
        # Leases before that of the position are finished.
        if self._position is None or self._position[0] < lease[1]:
            return lease[2]
        return self._position[1] if self._position[0] == lease[1] else lease[3]

    def _first_place(self):
        return self._limit_in(self._held[0]) if self._held else 0

    def wanted(self):
        """Return the request that the signer asks for next."""
        return self._wanted

    def take(self, lease):
        """Take the lease if it is the one that is wanted; tell whether it was taken."""
        self._journal.need_user()
        signer, request, first, past = lease
        if signer != self._number or request != self._wanted:
            return False
        need_within(first, 0, LAST_U64, "the first place")
        need_within(past, first + 1, LAST_U64, "the place behind the last one")
        if len(self._held) >= MOST_LEASES:
            raise Refused("the signer holds as many leases as it may")
        held = self._held + [(signer, request, first, past)]
        self._journal.put(lease_record(TAKEN, lease), held_records(held, self._position))
        self._held = held
        self._wanted = request + 1
        if len(held) == 1:
            self._next = first
        return True

    def sign(self, message):
        """Return the place that was used, and what the sign function returns for it."""
        self._journal.need_user()
        if not self._held:
            raise UsedUp("no lease has a place left")
        place = self._next
        if place >= self._limit_in(self._held[0]):
            self._raise_limit(place)
        self._next += 1
        if self._next == self._held[0][3]:
            self._held = self._held[1:]
            self._next = self._first_place()
        sign = self._sign
        return place, sign(place, passed_on(message))

    def _raise_limit(self, place):
        _, request, _, past = self._held[0]
        position = request, min(place + self._block, past)
        self._journal.put(position_record(position), held_records(self._held, position))
        self._position = position

    def left(self):
        """Return how many places are left."""
        used = self._next - self._held[0][2] if self._held else 0
        return sum([lease[3] - lease[2] for lease in self._held]) - used

    def held(self):
        """Return the leases that have a place left."""
        return list(self._held)


def held_records(leases, position):
    """Return the records of leases, and of a position if it belongs to one of them."""
    records = [lease_record(TAKEN, lease) for lease in leases]
    if position is not None and position[0] in [lease[1] for lease in leases]:
        records.append(position_record(position))
    return records
