"""Boxes that are asked number by number, and how to live with one that answers wrongly."""

from sevenninths.checks import is_from, is_member_row, is_sequence, require_map, require_member, require_within
from sevenninths.errors import InvalidSamples, InvalidTable

_MOST_PLACES = 128
_MOST_SAMPLES = 49
_MOST_PAIRS = 100


class Box:
    """A table of numbers that can be asked for one at a time, and counts what it answered."""

    def __init__(self, table):
        if not _is_number_row(table):
            raise InvalidTable(table)
        self.table = tuple(table)
        self._asks = 0

    def __len__(self):
        return len(self.table)

    @property
    def asks(self):
        """How many asks were answered."""
        return self._asks

    def ask(self, x):
        """The number at the place x."""
        require_within(x, 0, len(self.table) - 1)
        self._asks += 1
        return self.table[x]


def _is_number_row(value):
    """Whether value is a sequence of 1 to 128 numbers."""
    if not is_sequence(value) or not 1 <= len(value) <= _MOST_PLACES:
        return False
    return all([is_from(member, 0) for member in value])


class Corrector:
    """Answers for a box that holds a map of (one, other), by the votes of samples."""

    def __init__(self, one, other, box):
        require_map(one, other, box.table)
        self.box = box
        self._one = one
        self._other = other

    def answer(self, x, samples):
        """The vote at x that more than half of the samples have, or None."""
        require_member(self._one, x)
        if not _is_samples(self._one, samples):
            raise InvalidSamples(samples)
        counts = [0] * self._other.size
        for y in samples:
            counts[self._vote(x, y)] += 1
        return majority(counts)

    def _vote(self, x, y):
        """What the box has at xy times the inverse of what it has at y, asked in this order."""
        product = self.box.ask(self._one.product(x, y))
        return self._other.product(product, self._other.inverse(self.box.ask(y)))


def majority(counts):
    """The place whose count is more than half of all, or None."""
    most = max(counts)
    if 2 * most <= sum(counts):
        return None
    return counts.index(most)


def has_sample_count(value):
    """Whether value is a tuple of an odd number, at most 49, of any members."""
    return isinstance(value, tuple) and len(value) % 2 == 1 and len(value) <= _MOST_SAMPLES


def _is_samples(group, value):
    """Whether value is a tuple of an odd number, at most 49, of elements of the group."""
    return has_sample_count(value) and is_member_row(group, value, len(value))


class Tester:
    """Tests pairs of a box that holds a map of (one, other)."""

    def __init__(self, one, other, box):
        require_map(one, other, box.table)
        self.box = box
        self._one = one
        self._other = other

    def test(self, pairs):
        """How many of the pairs are broken."""
        if not _is_pairs(self._one, pairs):
            raise InvalidSamples(pairs)
        count = 0
        for x, y in pairs:
            if self._is_broken(x, y):
                count += 1
        return count

    def _is_broken(self, x, y):
        """Whether the product of what the box has at x and y is not what it has at xy, asked in this order."""
        product = self._other.product(self.box.ask(x), self.box.ask(y))
        return product != self.box.ask(self._one.product(x, y))


def _is_pairs(group, value):
    """Whether value is a tuple of at most 100 pairs of elements of the group."""
    if not isinstance(value, tuple) or len(value) > _MOST_PAIRS:
        return False
    return all([is_member_row(group, pair, 2) for pair in value])
