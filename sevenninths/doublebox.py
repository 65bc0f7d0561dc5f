"""Tables that are to have a multiple of x y at row x, place y, and a box for them that is asked at two numbers."""

from sevenninths.boxes import has_sample_count, majority
from sevenninths.checks import is_number_row, require_within
from sevenninths.errors import InvalidSamples, InvalidTable
from sevenninths.tables import require_table_prime


def _require_table(p, f):
    """Raise what is told unless p is a prime and f a tuple of p tuples of p numbers below p."""
    require_table_prime(p)
    if not isinstance(f, tuple) or len(f) != p or not all([is_number_row(row, p, p) for row in f]):
        raise InvalidTable(f)


def factor_of(p, f):
    """The least c for which c x y is unlike f at fewest places, and how many these are."""
    _require_table(p, f)
    fewest, least = min([(_unlike(p, f, c), c) for c in range(p)])
    return (least, fewest)


def _unlike(p, f, c):
    """The number of places at which f has not c x y."""
    return len([y for x in range(p) for y in range(p) if f[x][y] != c * x * y % p])


def product_votes(p, f, x, y):
    """For each number the number of pairs (r, s) whose four values vote for it at x, y."""
    _require_table(p, f)
    _require_two(p, x, y)
    counts = [0] * p
    for r in range(p):
        for s in range(p):
            counts[_vote(p, [f[row][place] for row, place in _asked_places(p, x, y, r, s)])] += 1
    return tuple(counts)


def _require_two(p, x, y):
    """Raise InvalidNumber with the first of the two that is no number below p."""
    require_within(x, 0, p - 1)
    require_within(y, 0, p - 1)


def _asked_places(p, x, y, r, s):
    """The four places that (r, s) has asked for the product of x and y, in their order."""
    across = (x + r) % p
    along = (y + s) % p
    return ((across, along), (r, along), (across, s), (r, s))


def _vote(p, values):
    """The product that the values at the four places vote for."""
    first, second, third, fourth = values
    return (first - second - third + fourth) % p


class DoubleBox:
    """A table that can be asked for one number at a time, and counts what it answered."""

    def __init__(self, p, f):
        _require_table(p, f)
        self._p = p
        self._table = f
        self._asks = 0

    @property
    def asks(self):
        """How many asks were answered."""
        return self._asks

    def ask(self, x, y):
        """The number at row x, place y."""
        _require_two(self._p, x, y)
        self._asks += 1
        return self._table[x][y]

    def corrected(self, x, y, samples):
        """The product of x and y that more than half of the samples vote for, or None."""
        _require_two(self._p, x, y)
        if not _is_samples(self._p, samples):
            raise InvalidSamples(samples)
        counts = [0] * self._p
        for r, s in samples:
            places = _asked_places(self._p, x, y, r, s)
            counts[_vote(self._p, [self.ask(row, place) for row, place in places])] += 1
        return majority(counts)


def _is_samples(p, value):
    """Whether value is a tuple of an odd number, at most 49, of pairs of numbers below p."""
    return has_sample_count(value) and all([is_number_row(pair, 2, p) for pair in value])
