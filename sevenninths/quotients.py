"""Subsets that are nearly closed: their quotients, and the subgroup behind them."""

from sevenninths.checks import is_subset
from sevenninths.errors import InvalidSubset, Undefined


def left_quotients(group, subset):
    """The subset of the products of the inverse of a and b, for all a and b of the subset."""
    _require_filled(group, subset)
    return _products(group, _inverses(group, subset), subset)


def right_quotients(group, subset):
    """The subset of the products of a and the inverse of b, for all a and b of the subset."""
    _require_filled(group, subset)
    return _products(group, subset, _inverses(group, subset))


def _require_filled(group, subset):
    """Raise InvalidSubset unless it is a subset with an element at least."""
    if not is_subset(group, subset) or len(subset) == 0:
        raise InvalidSubset(subset)


def _inverses(group, subset):
    """The inverses of the elements."""
    return [group.inverse(x) for x in subset]


def _products(group, left, right):
    """The subset of all products of one of the left and one of the right elements."""
    return tuple(sorted({group.table[x][y] for x in left for y in right}))


def is_tight(group, subset):
    """Whether it has less than one and a half times as many left quotients as elements."""
    return 2 * len(left_quotients(group, subset)) < 3 * len(subset)


def coset_of(group, subset):
    """The subgroup in one of whose right cosets a tight subset lies, and the subset's least element."""
    if not is_tight(group, subset):
        raise Undefined("subgroup")
    return (right_quotients(group, subset), subset[0])
