"""Tables of bits: how near they are to each linear map."""

from sevenninths.checks import is_within, require_within
from sevenninths.errors import InvalidMap

_MOST_BITS = 7


def _require_bits(n, f):
    """Raise what is told unless n is from 1 to 7 and f a tuple of 2 to the power n bits."""
    require_within(n, 1, _MOST_BITS)
    if not isinstance(f, tuple) or len(f) != (1 << n) or not all([is_within(bit, 0, 1) for bit in f]):
        raise InvalidMap(f)


def signs(n, f):
    """For each linear map at how many places f equals it, less at how many it does not."""
    _require_bits(n, f)
    row = [1 - 2 * bit for bit in f]
    # Bit by bit: x stands for a place in the bits that are still to come, for a linear map in those done.
    for place in range(n):
        bit = 1 << place
        row = [row[x - bit] - row[x] if x & bit else row[x] + row[x + bit] for x in range(len(row))]
    return tuple(row)


def broken_bits(n, f):
    """The number of pairs (x, y) for which f(x) + f(y) is not f(x + y), bit by bit modulo 2."""
    _require_bits(n, f)
    places = range(len(f))
    return sum([f[x] ^ f[y] ^ f[x ^ y] for x in places for y in places])


def best_linear(n, f):
    """The least number of a linear map with the greatest sign."""
    row = signs(n, f)
    return row.index(max(row))
