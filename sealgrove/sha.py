"""SHA-256."""

from sealgrove.octets import big

WORD = 0xffffffff

# A word times this number has the word's bits twice, so that a shift to the
# right turns it. What then stands above 32 bits is cut off after the sums.
TWICE = 0x100000001

ROUND_CONSTANTS = (
    0x428a2f98, 0x71374491, 0xb5c0fbcf, 0xe9b5dba5, 0x3956c25b, 0x59f111f1, 0x923f82a4, 0xab1c5ed5,
    0xd807aa98, 0x12835b01, 0x243185be, 0x550c7dc3, 0x72be5d74, 0x80deb1fe, 0x9bdc06a7, 0xc19bf174,
    0xe49b69c1, 0xefbe4786, 0x0fc19dc6, 0x240ca1cc, 0x2de92c6f, 0x4a7484aa, 0x5cb0a9dc, 0x76f988da,
    0x983e5152, 0xa831c66d, 0xb00327c8, 0xbf597fc7, 0xc6e00bf3, 0xd5a79147, 0x06ca6351, 0x14292967,
    0x27b70a85, 0x2e1b2138, 0x4d2c6dfc, 0x53380d13, 0x650a7354, 0x766a0abb, 0x81c2c92e, 0x92722c85,
    0xa2bfe8a1, 0xa81a664b, 0xc24b8b70, 0xc76c51a3, 0xd192e819, 0xd6990624, 0xf40e3585, 0x106aa070,
    0x19a4c116, 0x1e376c08, 0x2748774c, 0x34b0bcb5, 0x391c0cb3, 0x4ed8aa4a, 0x5b9cca4f, 0x682e6ff3,
    0x748f82ee, 0x78a5636f, 0x84c87814, 0x8cc70208, 0x90befffa, 0xa4506ceb, 0xbef9a3f7, 0xc67178f2,
)

START_WORDS = (
    0x6a09e667, 0xbb67ae85, 0x3c6ef372, 0xa54ff53a, 0x510e527f, 0x9b05688c, 0x1f83d9ab, 0x5be0cd19,
)


def round_constants():
    """Return the list of the 64 round constants."""
    return list(ROUND_CONSTANTS)


def start_words():
    """Return the list of the eight start words."""
    return list(START_WORDS)


def words_of(block):
    """Return the words that are written in a block."""
    return [
        block[at] << 24 | block[at + 1] << 16 | block[at + 2] << 8 | block[at + 3]
        for at in range(0, 64, 4)
    ]


def schedule_of(block):
    """Return the 64 words of the schedule of a block."""
    words = words_of(block)
    for k in range(16, 64):
        late = words[k - 2] * TWICE
        early = words[k - 15] * TWICE
        words.append((
            (late >> 17 ^ late >> 19 ^ words[k - 2] >> 10) + words[k - 7]
            + (early >> 7 ^ early >> 18 ^ words[k - 15] >> 3) + words[k - 16]
        ) & WORD)
    return words


def compress(words, block):
    """Return the eight words into which a block of 64 bytes is compressed."""
    a, b, c, d, e, f, g, h = words
    # The rounds are written out here, and choose and majority in a shorter
    # form, because nearly all of the program's time is spent in this loop.
    for constant, word in zip(ROUND_CONSTANTS, schedule_of(block)):
        twin = e * TWICE
        first = h + (twin >> 6 ^ twin >> 11 ^ twin >> 25) + (g ^ (e & (f ^ g))) + constant + word
        twin = a * TWICE
        second = (twin >> 2 ^ twin >> 13 ^ twin >> 22) + (a & b | c & (a | b))
        h, g, f, e = g, f, e, (d + first) & WORD
        d, c, b, a = c, b, a, (first + second) & WORD
    return [(old + new) & WORD for old, new in zip(words, (a, b, c, d, e, f, g, h))]


def padded(data):
    """Return the byte list, padded to whole blocks."""
    return data + [128] + [0] * ((55 - len(data)) % 64) + big(8 * len(data), 8)


def sha256(data):
    """Return the 32 bytes of the SHA-256 digest of a byte list."""
    blocks = padded(data)
    words = start_words()
    for at in range(0, len(blocks), 64):
        words = compress(words, blocks[at:at + 64])
    return [word >> shift & 255 for word in words for shift in (24, 16, 8, 0)]
