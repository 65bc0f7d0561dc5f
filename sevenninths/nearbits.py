"""Linear maps that are near a table of bits, found from the first bit on, and certificates of them."""

from sevenninths.checks import is_whole, is_within, require_within
from sevenninths.errors import InvalidSubset
from sevenninths.signs import signs


def weight(n, f, beginning):
    """The sum of the squares of the signs of all linear maps whose bits begin so."""
    row = signs(n, f)
    if not _is_beginning(n, beginning):
        raise InvalidSubset(beginning)
    return _weight_of(n, row, beginning)


def _is_beginning(n, value):
    """Whether value is a tuple of at most n bits."""
    return isinstance(value, tuple) and len(value) <= n and all([is_within(bit, 0, 1) for bit in value])


def _weight_of(n, row, beginning):
    """The weight of a beginning, by the row of all signs."""
    # The maps that begin so stand side by side in the row.
    place = 0
    for bit in beginning:
        place = 2 * place + bit
    many = 1 << (n - len(beginning))
    return sum([sign * sign for sign in row[place * many:(place + 1) * many]])


def near_linear(n, f, t):
    """The numbers of the linear maps whose sign is t or more, ascending."""
    row = _judged_signs(n, f, t)
    return tuple([a for a, sign in enumerate(row) if sign >= t])


def _judged_signs(n, f, t):
    """The signs of f; raises what is told unless t is an integer from 1 to 2 to the power n."""
    row = signs(n, f)
    require_within(t, 1, len(row))
    return row


def near_certificate(n, f, t):
    """Level by level the beginnings, with their weights, that can lead to a sign of t or more."""
    row = _judged_signs(n, f, t)
    levels = [_level(n, row, [()])]
    for _ in range(n):
        kept = [beginning for beginning, heavy in levels[-1] if heavy >= t * t]
        levels.append(_level(n, row, [beginning + (bit,) for beginning in kept for bit in range(2)]))
    return tuple(levels)


def _level(n, row, beginnings):
    """The beginnings with their weights."""
    return tuple([(beginning, _weight_of(n, row, beginning)) for beginning in beginnings])


def near_certificate_holds(n, f, t, certificate):
    """Whether the value, of any kind, is the certificate, made of tuples and integers alone."""
    return _is_just(certificate, near_certificate(n, f, t))


def _is_just(value, told):
    """Whether the value, of any kind, is what is told: an integer, or a tuple of such, nested in any way."""
    if not isinstance(told, tuple):
        return is_whole(value) and value == told
    if not isinstance(value, tuple) or len(value) != len(told):
        return False
    return all([_is_just(part, told_part) for part, told_part in zip(value, told)])
