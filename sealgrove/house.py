"""Houses: a tower, its keeper on a disk, the book of what was signed, and a log of it."""

from sealgrove.accusing import accuse_tower
from sealgrove.disk import Disk
from sealgrove.errors import OutOfRange, PowerLost, Refused, UsedUp
from sealgrove.granting import entry_of
from sealgrove.keeper import TowerKeeper
from sealgrove.logbook import Logbook
from sealgrove.tower import verify_tower


class House:
    """Is driven by deeds, each of which has an outcome."""

    def __init__(self, tower, identifier, seed, size, block):
        self._disk = Disk(size)
        self._tower = tower
        self._identifier = list(identifier)
        self._seed = list(seed)
        self._block = block
        self._keeper = self._new_keeper()
        self._public = None
        self._book = []
        self._log = Logbook(tower.suite)

    def _new_keeper(self):
        return TowerKeeper(self._disk, self._tower, self._identifier, self._seed, self._block)

    def deed(self, deed):
        """Do a deed and return its outcome."""
        if deed[0] == "offer":
            _, index, data, changes = deed
            return self._offer_deed(index, list(data), changes)
        if deed[0] == "head":
            return self._head_deed(deed[1])
        try:
            return self._keeper_deed(deed)
        except PowerLost:
            return ("power",)
        except UsedUp:
            return ("used",)
        except Refused:
            return ("stale",)

    def _keeper_deed(self, deed):
        if deed[0] == "sign":
            return self._sign_deed(list(deed[1]))
        if deed[0] == "skip":
            return self._skip_deed(deed[1])
        if deed[0] == "fail":
            self._disk.fail_after(deed[1])
            return "set", deed[1]
        if deed[0] == "crash":
            self._disk.crash(list(deed[1]))
            return ("crashed",)
        self._keeper = self._new_keeper()
        return "opened", self._keeper.next_place()

    def _sign_deed(self, message):
        text = entry_of(message, [])
        place, signature = self._keeper.sign(message)
        # A signature of a great tower may be longer than what others may put into a log.
        self._log.put(text + signature)
        self._book.append((message, signature))
        return "signed", place

    def _skip_deed(self, count):
        try:
            self._keeper.skip(count)
        except OutOfRange:
            return ("used",)
        return "skipped", count

    def _offer_deed(self, index, message, changes):
        if not 0 <= index < len(self._book):
            return ("nothing",)
        signature = list(self._book[index][1])
        for at, value in changes:
            if 0 <= at < len(signature):
                signature[at] = value
        if not verify_tower(self.public(), message, signature):
            return ("wrong",)
        if (message, signature) in self._book:
            return "known", self._book.index((message, signature))
        return "accused", accuse_tower(self.public(), self._book, message, signature)[0]

    def _head_deed(self, count):
        if not 0 <= count <= self._log.length():
            return ("nothing",)
        return "head", count, tuple(self._log.head(count)[1])

    def public(self):
        """Return the form of the public key."""
        # It is kept, as each new keeper would have to make the highest tree for it.
        if self._public is None:
            self._public = self._keeper.public()
        return list(self._public)

    def book(self):
        """Return the pairs of the messages that were signed and of their signatures."""
        return [(list(message), list(signature)) for message, signature in self._book]

    def log(self):
        """Return the entries of the log."""
        return self._log.entries()


def run(house, deeds):
    """Do the deeds in order and return their outcomes."""
    return [house.deed(deed) for deed in deeds]
