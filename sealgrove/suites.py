"""Suites: a core, SHA-256 or the small one, and a size of digests."""

from sealgrove.errors import Malformed, OutOfRange
from sealgrove.octets import u32, within
from sealgrove.sha import sha256
from sealgrove.small import small_core

CORES = ("sha", "small")
BLOCK = 64


class Suite:
    """A way to digest byte lists."""

    def __init__(self, core, size):
        if not within(core, 0, 1):
            raise OutOfRange("the core is not 0 or 1")
        if not within(size, 1, 32):
            raise OutOfRange("the size is not from 1 to 32")
        self.core = core
        self.size = size
        self.name = f"{CORES[core]}-{size}"

    def whole(self, data):
        """Return the whole digest, 32 bytes."""
        if self.core == 0:
            return sha256(data)
        return small_core(data)

    def digest(self, data):
        """Return the digest, as many bytes as the size tells."""
        return self.whole(data)[:self.size]

    def mac(self, key, data):
        """Return the keyed digest of the data, 32 bytes."""
        block = self.whole(key) if len(key) > BLOCK else key
        block = block + [0] * (BLOCK - len(block))
        inner = self.whole([byte ^ 54 for byte in block] + data)
        return self.whole([byte ^ 92 for byte in block] + inner)

    def stretch(self, data, count):
        """Return count bytes that are made of the data."""
        result = []
        while len(result) < count:
            result.extend(self.whole(data + u32(len(result) // 32)))
        return result[:count]


def suite_named(name):
    """Return the suite with this name."""
    for core in range(2):
        for size in range(1, 33):
            # Comparing whole names refuses zeros in front, blanks and digits of other scripts.
            if name == f"{CORES[core]}-{size}":
                return Suite(core, size)
    raise Malformed("there is no suite with this name")
