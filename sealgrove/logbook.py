"""Logs: lists of entries that only grow, with one digest for all of them and short paths for each one."""

from sealgrove.errors import NotThere, OutOfRange, UsedUp
from sealgrove.octets import u32, within

LONGEST_ENTRY = 65536
MOST_ENTRIES = 1048576


def entry_list(entry):
    """Return the leaf list of an entry."""
    return [0] + entry


def fork_list(left, right):
    """Return the list whose digest stands for two digests."""
    return [1] + left + right


def head_text(head):
    """Return the text that is signed for a head."""
    count, digest = head
    return [2] + u32(count) + digest


def split_of(count):
    """Return the greatest power of 2 that is less than the count."""
    if count < 2:
        raise OutOfRange("a split is that of a number from 2 on")
    return 1 << ((count - 1).bit_length() - 1)


def leaf_digest(suite, entry):
    """Return the digest of the leaf list of an entry."""
    return suite.digest(entry_list(entry))


def joint_digest(suite, leaves):
    """Return the log digest of the entries that have these leaf digests."""
    if not leaves:
        return suite.digest([])
    if len(leaves) == 1:
        return list(leaves[0])
    split = split_of(len(leaves))
    return suite.digest(fork_list(joint_digest(suite, leaves[:split]), joint_digest(suite, leaves[split:])))


def log_digest(suite, entries):
    """Return the log digest of entries."""
    return joint_digest(suite, [leaf_digest(suite, entry) for entry in entries])


def inclusion_path(suite, leaves, index):
    """Return the inclusion path of one of the entries that have these leaf digests."""
    if len(leaves) == 1:
        return []
    split = split_of(len(leaves))
    if index < split:
        return inclusion_path(suite, leaves[:split], index) + [joint_digest(suite, leaves[split:])]
    return inclusion_path(suite, leaves[split:], index - split) + [joint_digest(suite, leaves[:split])]


def part_path(suite, leaves, first, whole):
    """Return the part path of so many first entries among the entries that have these leaf digests."""
    if first == len(leaves):
        return [] if whole else [joint_digest(suite, leaves)]
    split = split_of(len(leaves))
    if first <= split:
        return part_path(suite, leaves[:split], first, whole) + [joint_digest(suite, leaves[split:])]
    return part_path(suite, leaves[split:], first - split, False) + [joint_digest(suite, leaves[:split])]


class Logbook:
    """A log, which has no entries at first."""

    def __init__(self, suite):
        self._suite = suite
        self._entries = []
        # The digests of the first leaf lists, as far as they were needed.
        self._leaves = []

    def append(self, entry):
        """Put an entry behind the others; return its index."""
        if len(entry) > LONGEST_ENTRY:
            raise OutOfRange("the entry has more than 65536 bytes")
        if len(self._entries) >= MOST_ENTRIES:
            raise UsedUp("the log is full")
        return self.put(entry)

    def put(self, entry):
        """Put an entry of any length behind the others; return its index."""
        self._entries.append(list(entry))
        return len(self._entries) - 1

    def _need(self, value, last, what):
        if not within(value, 0, last):
            raise NotThere(f"there is no such {what}")

    def _known_count(self, count):
        found = len(self._entries) if count is None else count
        self._need(found, len(self._entries), "count")
        return found

    def _first_leaves(self, count):
        for entry in self._entries[len(self._leaves):count]:
            self._leaves.append(leaf_digest(self._suite, entry))
        return self._leaves[:count]

    def entry(self, index):
        """Return an entry."""
        self._need(index, len(self._entries) - 1, "entry")
        return list(self._entries[index])

    def entries(self):
        """Return all entries."""
        return [list(entry) for entry in self._entries]

    def length(self):
        """Return the number of entries."""
        return len(self._entries)

    def head(self, count=None):
        """Return the head at a count."""
        known = self._known_count(count)
        return known, joint_digest(self._suite, self._first_leaves(known))

    def inclusion(self, index, count=None):
        """Return the inclusion path of an entry at a count."""
        known = self._known_count(count)
        self._need(index, known - 1, "entry before the count")
        return inclusion_path(self._suite, self._first_leaves(known), index)

    def consistency(self, first, count=None):
        """Return the consistency path from one count to another."""
        known = self._known_count(count)
        self._need(first, known, "count before the other one")
        if first == 0:
            return []
        return part_path(self._suite, self._first_leaves(known), first, True)
