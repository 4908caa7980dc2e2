"""Journals: lists of records on a disk, which change as a whole or not at all."""

from sealgrove.common import joined
from sealgrove.errors import Malformed, Refused
from sealgrove.octets import is_bytes, number_of, u8, u32

POINTER = 0
HEADS = (1, 6)
HEAD_SIZE = 5
FIRST_AREA = 11
LONGEST_RECORD = 255


def area_size(disk):
    """Return how many bytes an area has."""
    return (disk.size - FIRST_AREA) // 2


def area_start(disk, area):
    """Return the address at which an area begins."""
    return FIRST_AREA + area * area_size(disk)


def stored(disk):
    """Return the pointer, the area and the bytes of all forms in it, as they stand on a disk."""
    pointer = disk.read(POINTER, 1)[0]
    if pointer >= len(HEADS):
        raise Malformed("the pointer is not 0 or 1")
    head = disk.read(HEADS[pointer], HEAD_SIZE)
    area = head[0]
    length = number_of(head[1:])
    if area > 1 or length > area_size(disk):
        raise Malformed("the head tells no part of an area")
    return pointer, area, disk.read(area_start(disk, area), length)


def records_in(data):
    """Return the records whose forms stand one behind the other."""
    records = []
    used = 0
    while used < len(data):
        behind = used + 1 + data[used]
        if behind > len(data):
            raise Malformed("the last record is cut off")
        records.append(data[used + 1:behind])
        used = behind
    return records


def stored_records(disk):
    """Return the records of the journal on a disk, without becoming its user."""
    return records_in(stored(disk)[2])


def form_of(record):
    """Return the form of a record, which may be of any kind."""
    if not is_bytes(record) or len(record) > LONGEST_RECORD:
        raise Malformed("a record is no byte list of at most 255 bytes")
    return u8(len(record)) + record


class Journal:
    """The journal on a disk, whose user it becomes."""

    def __init__(self, disk):
        pointer, area, data = stored(disk)
        self._records = records_in(data)
        self._disk = disk
        self._pointer = pointer
        self._area = area
        self._length = len(data)
        self._number = disk.claim()

    def records(self):
        """Return the records."""
        return [list(record) for record in self._records]

    def room(self):
        """Return how many bytes are left in the area."""
        return area_size(self._disk) - self._length

    def is_stale(self):
        """Tell whether another one became the user of the disk, or the disk crashed."""
        return not self._disk.is_user(self._number)

    def need_user(self):
        """Refuse to go on if the journal is stale."""
        if self.is_stale():
            raise Refused("the journal is stale")

    def append(self, record):
        """Put a record behind the others."""
        self.need_user()
        form = form_of(record)
        if len(form) > self.room():
            raise Refused("there is too little room for the record")
        self._change(self._area, self._length, form)
        self._records.append(list(record))

    def rewrite(self, records):
        """Put these records in the place of all others."""
        self.need_user()
        data = joined([form_of(record) for record in records])
        if len(data) > area_size(self._disk):
            raise Refused("there is too little room for the records")
        self._change(1 - self._area, 0, data)
        self._records = [list(record) for record in records]

    def put(self, record, instead):
        """Append a record, or, if there is no room for it, rewrite the journal with the others."""
        if len(form_of(record)) <= self.room():
            self.append(record)
        else:
            self.rewrite(instead)

    def _change(self, area, at, data):
        # Nothing that counts is overwritten before the pointer, which is one byte, so that a crash
        # leaves the records before the change or those after it.
        head = 1 - self._pointer
        length = at + len(data)
        self._disk.write(area_start(self._disk, area) + at, data)
        self._disk.write(HEADS[head], u8(area) + u32(length))
        self._disk.sync()
        self._disk.write(POINTER, u8(head))
        self._disk.sync()
        self._pointer = head
        self._area = area
        self._length = length
