"""A map that is changed place by place, while the number of its broken pairs is kept."""

from sevenninths.checks import require_member
from sevenninths.maps import broken, votes


class Kept:
    """A map of (one, other) that can be changed, and knows how many of its pairs are broken."""

    def __init__(self, one, other, f):
        self._broken = broken(one, other, f)
        self._one = one
        self._other = other
        self._row = f

    @property
    def row(self):
        """The map as it is."""
        return self._row

    @property
    def broken(self):
        """The number of broken pairs of the map as it is."""
        return self._broken

    @property
    def sure(self):
        """Whether fewer than two ninths of the pairs are broken."""
        return 9 * self._broken < 2 * self._one.size * self._one.size

    def change(self, x, value):
        """Give the map this value at x; answers the value that it had there."""
        require_member(self._one, x)
        require_member(self._other, value)
        former = self._row[x]
        pairs = _pairs_with(self._one, x)
        before = self._broken_among(pairs)
        self._row = self._row[:x] + (value,) + self._row[x + 1:]
        self._broken = self._broken - before + self._broken_among(pairs)
        return former

    def _broken_among(self, pairs):
        """How many of the pairs are broken."""
        f = self._row
        products = self._other.table
        return len([x for x, y in pairs if products[f[x]][f[y]] != f[self._one.table[x][y]]])

    def votes(self, x):
        """For each element h of other the number of the votes at x for it."""
        return votes(self._one, self._other, self._row, x)


def _pairs_with(group, x):
    """The pairs in which x is one of the two or the product: the others are as broken as before."""
    pairs = []
    for y in range(group.size):
        pairs.extend([(x, y), (y, x), (y, group.table[group.inverse(y)][x])])
    return sorted(set(pairs))
