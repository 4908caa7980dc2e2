"""The points of part 8 once more, as plainly as possible.

The bytes of disks are here plain byte lists, and a journal is told by (pointer, area, records).
"""

from reference import num, number


def area_size(size):
    return (size - 11) // 2


def forms(records):
    return sum([[len(record)] + record for record in records], [])


def put(image, at, data):
    return image[:at] + data + image[at + len(data):]


def journal(image):
    """The pointer, the area and the records that the bytes of a disk tell, or None if they are malformed."""
    pointer = image[0]
    if pointer not in (0, 1):
        return None
    at = (1, 6)[pointer]
    area, length = image[at], number(image[at + 1:at + 5])
    size = area_size(len(image))
    if area not in (0, 1) or length > size:
        return None
    start = 11 + area * size
    data, records = image[start:start + length], []
    while data:
        if len(data) < 1 + data[0]:
            return None
        records.append(data[1:1 + data[0]])
        data = data[1 + data[0]:]
    return pointer, area, records


def records(image):
    return journal(image)[2]


def changed_to(image, area, at, data):
    """The bytes of the disk before a change, and after each of its five deeds."""
    pointer = image[0]
    out = [image]
    out.append(put(out[-1], 11 + area * area_size(len(image)) + at, data))
    out.append(put(out[-1], (6, 1)[pointer], [area] + num(at + len(data), 4)))
    out.append(out[-1])
    out.append(put(out[-1], 0, [1 - pointer]))
    out.append(out[-1])
    return out


def appending(image, record):
    """The bytes of the disk before an append and after each of its deeds, or None if there is too little room."""
    _, area, found = journal(image)
    used = len(forms(found))
    if used + 1 + len(record) > area_size(len(image)):
        return None
    return changed_to(image, area, used, forms([record]))


def rewriting(image, found):
    """The same for a rewriting."""
    if len(forms(found)) > area_size(len(image)):
        return None
    return changed_to(image, 1 - journal(image)[1], 0, forms(found))


def putting(image, record, instead):
    """The same for what appends a record, or rewrites the journal if there is no room for it."""
    return appending(image, record) or rewriting(image, instead)


class Keeping:
    """A keeper by the words of points 168 to 171, on a disk whose bytes are the list image[0]."""

    def __init__(self, image, places, block):
        self.image, self.places, self.block = image, places, block
        found = records(image[0])
        self.limit = number(found[-1]) if found else 0
        self.next = self.limit

    def record(self, limit):
        self.image[0] = putting(self.image[0], num(limit, 8), [num(limit, 8)])[-1]
        self.limit = limit

    def sign(self):
        if self.next == self.limit:
            self.record(min(self.limit + self.block, self.places))
        self.next += 1
        return self.next - 1

    def skip(self, count):
        self.next += count
        if self.next > self.limit:
            self.record(self.next)


def lease_record(first_byte, lease):
    _, request, first, past = lease
    return [first_byte] + num(request, 4) + num(first, 8) + num(past, 8)


def position_record(request, limit):
    return [2] + num(request, 4) + num(limit, 8)


class Lending:
    """An office by the words of points 176 and 177; it keeps all its leases."""

    def __init__(self, image, places, span):
        self.image, self.places, self.span = image, places, span
        self.all = [
            (record[0], number(record[1:5]), number(record[5:13]), number(record[13:])) for record in records(image[0])
        ]

    def last(self):
        return {lease[0]: lease for lease in self.all}

    def free(self):
        return max([lease[3] for lease in self.all], default=0)

    def ask(self, signer, request):
        """The lease, or the name of the error."""
        last = self.last().get(signer)
        if last is not None and last[1] == request:
            return last
        if request != (0 if last is None else last[1]) + 1:
            return "Refused"
        if self.free() == self.places:
            return "UsedUp"
        lease = (signer, request, self.free(), min(self.free() + self.span, self.places))
        self.all.append(lease)
        ordered = sorted(self.last().values(), key=lambda one: one[2])
        self.image[0] = putting(
            self.image[0], lease_record(signer, lease), [lease_record(one[0], one) for one in ordered])[-1]
        return lease


class Using:
    """A signer by the words of points 178 to 181; it keeps all leases, and each place that was used or lost."""

    def __init__(self, image, own, block):
        self.image, self.own, self.block = image, own, block
        self.leases, self.position = [], None
        for record in records(image[0]):
            if record[0] == 1:
                self.leases.append((own, number(record[1:5]), number(record[5:13]), number(record[13:])))
            else:
                self.position = (number(record[1:5]), number(record[5:]))
        self.gone = {place for lease in self.leases for place in range(*lease[2:]) if place < self.limit(lease)}

    def limit(self, lease):
        if self.position is None or self.position[0] < lease[1]:
            return lease[2]
        return self.position[1] if self.position[0] == lease[1] else lease[3]

    def wanted(self):
        return self.leases[-1][1] + 1 if self.leases else 1

    def left(self):
        """The lease and the place of each place that is left, in their order."""
        return [(lease, place) for lease in self.leases for place in range(*lease[2:]) if place not in self.gone]

    def held(self):
        return [lease for lease in self.leases if lease in [one for one, _ in self.left()]]

    def put(self, record, held, position):
        instead = [lease_record(1, lease) for lease in held]
        if position is not None and position[0] in [lease[1] for lease in held]:
            instead.append(position_record(*position))
        self.image[0] = putting(self.image[0], record, instead)[-1]

    def take(self, lease):
        """True or False, or the name of the error."""
        if lease[0] != self.own or lease[1] != self.wanted():
            return False
        if len(self.held()) == 8:
            return "Refused"
        self.put(lease_record(1, lease), self.held() + [lease], self.position)
        self.leases.append(lease)
        return True

    def sign(self):
        """The place, or the name of the error."""
        if not self.left():
            return "UsedUp"
        lease, place = self.left()[0]
        if place >= self.limit(lease):
            position = (lease[1], min(place + self.block, lease[3]))
            self.put(position_record(*position), self.held(), position)
            self.position = position
        self.gone.add(place)
        return place
