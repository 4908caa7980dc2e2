"""Disks: bytes of which a crash may leave any version that was written since the last sync."""

from sealgrove.common import has_size, need_at_least, need_within
from sealgrove.errors import Malformed, OutOfRange, PowerLost

SMALLEST = 64
GREATEST = 65536


class Disk:
    """Bytes at addresses; it knows all their versions since the last sync, and may lose its power."""

    def __init__(self, size, image=None):
        need_within(size, SMALLEST, GREATEST, "the size")
        if image is not None and not has_size(image, size):
            raise Malformed("the image is no byte list as long as the disk")
        self.size = size
        self._last = [0] * size if image is None else list(image)
        # The versions before the last one, of the loose bytes alone.
        self._older = {}
        self._done = 0
        self._has_power = True
        self._failure = None
        self._claims = 0
        self._has_user = False

    def _need_power(self):
        if not self._has_power:
            raise PowerLost("the power is off")

    def _need_room(self, at, count):
        need_within(at, 0, self.size, "the address")
        need_within(count, 0, self.size - at, "the number of bytes")

    def _begin_deed(self):
        if self._failure == 0:
            self._has_power = False
            raise PowerLost("the power fails")
        if self._failure is not None:
            self._failure -= 1
        self._done += 1

    def write(self, at, data):
        """Put the bytes at an address and behind it."""
        self._need_power()
        self._need_room(at, len(data))
        self._begin_deed()
        for address, byte in enumerate(data, start=at):
            self._older.setdefault(address, []).append(self._last[address])
            self._last[address] = byte

    def sync(self):
        """Make the last version of each byte its only one."""
        self._need_power()
        self._begin_deed()
        self._older = {}

    def read(self, at, count):
        """Return the last versions of so many bytes."""
        self._need_power()
        self._need_room(at, count)
        return self._last[at:at + count]

    def crash(self, picks):
        """Choose one version of each loose byte, and switch the power on."""
        for k, address in enumerate(self.loose()):
            found = self.versions(address)
            pick = picks[k] if k < len(picks) else 0
            self._last[address] = found[pick % len(found)]
        self._older = {}
        self._has_power = True
        self._failure = None
        self._has_user = False

    def fail_after(self, count):
        """Set the power to fail after so many deeds, or not to fail if the number is None."""
        if count is not None:
            need_at_least(count, 0, "the number of deeds")
        self._failure = count

    def deeds(self):
        """Return how many deeds have succeeded."""
        return self._done

    def loose(self):
        """Return the addresses of the loose bytes."""
        return sorted(self._older)

    def versions(self, at):
        """Return the versions of a byte, the last one at the end."""
        if not 0 <= at < self.size:
            raise OutOfRange("there is no such address")
        return self._older.get(at, []) + [self._last[at]]

    def image(self):
        """Return the last versions of all bytes."""
        return list(self._last)

    def claim(self):
        """Make the caller the user; return the number by which it is known."""
        self._claims += 1
        self._has_user = True
        return self._claims

    def is_user(self, number):
        """Tell whether the number is that of the user."""
        return self._has_user and number == self._claims
