"""Finite groups, each judged by its table when it is made."""

from sevenninths.checks import is_sequence, is_whole, is_within, require_member
from sevenninths.errors import InvalidGroup, InvalidNumber

MOST_MEMBERS = 48


class Group:
    """A finite group on the elements 0 .. size - 1; row x of its table has xy at place y."""

    def __init__(self, table):
        self.table = _judged_rows(table)
        self.size = len(self.table)
        self.neutral = _judged_neutral(self.table)
        self._inverses = _judged_inverses(self.table, self.neutral)
        _judge_products(self.table)

    def __eq__(self, other):
        return isinstance(other, Group) and self.table == other.table

    @property
    def commutative(self):
        """Whether xy is yx for all elements."""
        return all([self.table[x][y] == self.table[y][x] for x in range(self.size) for y in range(x)])

    def product(self, x, y):
        """The element xy."""
        require_member(self, x)
        require_member(self, y)
        return self.table[x][y]

    def inverse(self, x):
        """The element that makes the neutral one with x."""
        require_member(self, x)
        return self._inverses[x]

    def order(self, x):
        """How many factors x the first power has, from one factor on, that is neutral."""
        require_member(self, x)
        count = 1
        reached = x
        while reached != self.neutral:
            reached = self.table[reached][x]
            count += 1
        return count

    def power(self, x, k):
        """The product of k factors x; for k below 0, of -k factors that are its inverse."""
        require_member(self, x)
        if not is_whole(k):
            raise InvalidNumber(k)
        reached = self.neutral
        # Powers come again after order(x) steps, backwards too; so k may be huge or below 0.
        for _ in range(k % self.order(x)):
            reached = self.table[reached][x]
        return reached


def _judged_rows(table):
    """The table as a tuple of tuples, if it is a square one of elements."""
    if not is_sequence(table) or not 1 <= len(table) <= MOST_MEMBERS:
        raise InvalidGroup("table", 0)
    size = len(table)
    for x, row in enumerate(table):
        if not _is_row(row, size):
            raise InvalidGroup("row", x)
    return tuple([tuple(row) for row in table])


def _is_row(row, size):
    """Whether row is a sequence of size numbers below size."""
    if not is_sequence(row) or len(row) != size:
        return False
    return all([is_within(value, 0, size - 1) for value in row])


def _judged_neutral(table):
    """The element that changes none by a product with it, on either side."""
    for e, row in enumerate(table):
        if all([row[x] == x and table[x][e] == x for x in range(len(table))]):
            return e
    raise InvalidGroup("neutral", 0)


def _judged_inverses(table, neutral):
    """For each element the first that makes the neutral one with it, on either side."""
    inverses = []
    for x, row in enumerate(table):
        partners = [y for y, xy in enumerate(row) if xy == neutral and table[y][x] == neutral]
        if not partners:
            raise InvalidGroup("inverse", x)
        inverses.append(partners[0])
    return tuple(inverses)


def _judge_products(table):
    """Raise InvalidGroup with the first triple whose products differ by where the brackets stand."""
    for x, row in enumerate(table):
        for y, xy in enumerate(row):
            for z, yz in enumerate(table[y]):
                if table[xy][z] != row[yz]:
                    raise InvalidGroup("product", (x, y, z))
