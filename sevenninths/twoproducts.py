"""Two products on the same elements: how far they are apart, and when one is the other renamed."""

from sevenninths.errors import Undefined
from sevenninths.groups import Group
from sevenninths.ninths import hom_of


def products_apart(one, other):
    """The number of pairs whose products in two groups of one size are unlike."""
    _require_one_size(one, other)
    return sum([len([y for y in range(one.size) if row[y] != other_row[y]])
                for row, other_row in zip(one.table, other.table)])


def _require_one_size(one, other):
    """Raise Undefined unless the two groups have equally many elements."""
    if one.size != other.size:
        raise Undefined("size")


def renaming(one, other):
    """The homomorphism of (one, other) that leaves more than nine tenths of the elements where they are."""
    _require_one_size(one, other)
    # The map that leaves each element where it is breaks just the pairs whose products are unlike.
    return hom_of(one, other, tuple(range(one.size)))


def nine_pair():
    """Two groups on nine elements, unlike at two ninths of the pairs, that no renaming makes one."""
    members = [(t // 3, t % 3 - 1) for t in range(9)]
    return (_group_on_nine(members, _carried_sum), _group_on_nine(members, _plain_sum))


def _group_on_nine(members, total):
    """The group of the pairs (k, r), r from -1 to 1, of which (k, r) is element 3 k + r + 1."""
    sums = [[total(x, y) for y in members] for x in members]
    return Group([[3 * k + r + 1 for k, r in row] for row in sums])


def _carried_sum(x, y):
    """The sum of two pairs (k, r), each as 3 k + r modulo 9."""
    k, r = x
    m, s = y
    total = (3 * k + r + 3 * m + s + 1) % 9
    return (total // 3, total % 3 - 1)


def _plain_sum(x, y):
    """The sum of two pairs (k, r), part by part modulo 3."""
    k, r = x
    m, s = y
    return ((k + m) % 3, (r + s + 1) % 3 - 1)
