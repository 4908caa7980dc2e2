"""The small core: a digest for which everybody can find different lists with one result."""

MODULUS = 65521


def small_core(data):
    """Return the 32 bytes that the small core gives for a byte list."""
    state = 1
    for byte in data:
        state = (state * 257 + byte + 1) % MODULUS
    state = (state * 31 + len(data) + 7) % MODULUS
    result = []
    for _ in range(32):
        state = (state * 16807 + 11) % MODULUS
        result.append(state % 256)
    return result
