"""Keepers: they sign with a key and use no place of it twice, whatever their disk keeps of a crash."""

from sealgrove.common import LAST_U64, need_at_least, need_message, need_within, passed_on
from sealgrove.errors import Malformed, UsedUp
from sealgrove.journal import Journal, stored_records
from sealgrove.keptkeys import KeptKey
from sealgrove.lms import need_key, tree_root
from sealgrove.lmsforms import write_public, write_tree
from sealgrove.octets import big, number_of
from sealgrove.stacks import need_shape
from sealgrove.tower import TowerSigner

LIMIT_SIZE = 8


def stored_limit(records, places):
    """Return the limit that the records of a keeper tell."""
    for record in records:
        if len(record) != LIMIT_SIZE:
            raise Malformed("a record is no limit")
    limit = number_of(records[-1]) if records else 0
    if limit > places:
        raise Malformed("the limit is greater than the number of places")
    return limit


class Keeper:
    """Signs at ascending places, each of which was given up on the disk before it is used."""

    def __init__(self, disk, sign, places, block):
        need_within(places, 0, LAST_U64, "the number of places")
        need_at_least(block, 1, "the block")
        # The records are looked at before the journal is opened: what cannot be opened does not become the user.
        self._limit = stored_limit(stored_records(disk), places)
        self._next = self._limit
        self._places = places
        self._block = block
        self._sign = sign
        self._journal = Journal(disk)

    def sign(self, message):
        """Return the place that was used, and what the sign function returns for it."""
        self._journal.need_user()
        if self.left() == 0:
            raise UsedUp("all places are used")
        if self._next == self._limit:
            self._raise_limit(min(self._limit + self._block, self._places))
        place = self._next
        self._next += 1
        sign = self._sign
        return place, sign(place, passed_on(message))

    def skip(self, count):
        """Give up so many places."""
        self._journal.need_user()
        need_within(count, 0, self.left(), "the number of places")
        if self._next + count > self._limit:
            self._raise_limit(self._next + count)
        self._next += count

    def _raise_limit(self, limit):
        record = big(limit, LIMIT_SIZE)
        self._journal.put(record, [record])
        self._limit = limit

    def left(self):
        """Return how many places are left."""
        return self._places - self._next

    def next_place(self):
        """Return the next place."""
        return self._next

    def limit(self):
        """Return the limit: no place from it on was ever used."""
        return self._limit


class TreeKeeper:
    """A keeper of a tree key."""

    def __init__(self, disk, kind, identifier, seed, block, *, schedule="even"):
        need_key(kind, identifier, seed)
        need_shape(kind.height, 0, schedule)
        self._kind = kind
        self._identifier = list(identifier)
        self._seed = list(seed)
        self._schedule = schedule
        # Both take the work of a whole tree, and are made when they are needed.
        self._key = None
        self._public = None
        self._keeper = Keeper(disk, self._form_at, kind.places, block)

    def _form_at(self, place, message):
        if self._key is None:
            self._key = KeptKey(self._kind, self._identifier, self._seed, place=place, schedule=self._schedule)
        return write_tree(self._kind, self._key.sign_at(place, message))

    def public(self):
        """Return the form of the public key."""
        if self._public is None:
            root = tree_root(self._kind, self._identifier, self._seed)
            self._public = write_public(self._kind, self._identifier, root)
        return list(self._public)

    def sign(self, message):
        """Return the place that was used, and the form of the tree signature."""
        need_message(message)
        return self._keeper.sign(message)

    def skip(self, count):
        """Give up so many places."""
        self._keeper.skip(count)

    def left(self):
        """Return how many places are left."""
        return self._keeper.left()

    def next_place(self):
        """Return the next place."""
        return self._keeper.next_place()

    def limit(self):
        """Return the limit: no place from it on was ever used."""
        return self._keeper.limit()


class TowerKeeper:
    """A keeper of a tower."""

    def __init__(self, disk, tower, identifier, seed, block):
        self._signer = TowerSigner(tower, identifier, seed)
        self._keeper = Keeper(disk, self._form_at, tower.total, block)

    def _form_at(self, place, message):
        self._signer.skip(place - self._signer.next_number())
        return self._signer.sign(message)

    def public(self):
        """Return the form of the public key."""
        return self._signer.public()

    def sign(self, message):
        """Return the place that was used, and the form of the tower signature."""
        need_message(message)
        return self._keeper.sign(message)

    def skip(self, count):
        """Give up so many places."""
        self._keeper.skip(count)

    def left(self):
        """Return how many places are left."""
        return self._keeper.left()

    def next_place(self):
        """Return the next place."""
        return self._keeper.next_place()

    def limit(self):
        """Return the limit: no place from it on was ever used."""
        return self._keeper.limit()
