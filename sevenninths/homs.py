"""Homomorphisms: judging maps, finding all, and at how many places two are alike."""

from itertools import combinations

from sevenninths.checks import is_member_row, require_map
from sevenninths.errors import InvalidMap, TooMany, Undefined
from sevenninths.subsets import generated, generators

MOST_ROWS = 20000
_MOST_COMPARED_ROWS = 1000


def first_broken(one, other, f):
    """The first pair (x, y) for which f(x)f(y) is not f(xy), or None."""
    require_map(one, other, f)
    for x, row in enumerate(one.table):
        for y, xy in enumerate(row):
            if other.table[f[x]][f[y]] != f[xy]:
                return (x, y)
    return None


def is_hom(one, other, f):
    """Whether the map f is a homomorphism."""
    return first_broken(one, other, f) is None


def hom_from(one, other, subset, values):
    """The homomorphism that has these values at a subset that generates one, or None."""
    if len(generated(one, subset)) < one.size:
        raise Undefined("subset")
    if not is_member_row(other, values, len(subset)):
        raise InvalidMap(values)
    return _carried_on(one, other, subset, values)


def _carried_on(one, other, subset, values):
    """The map that the values at a generating subset tell step by step, or None if two steps clash.

    It is a homomorphism: f(xy) is f(x) times the value of y for each x and each y of the subset,
    so by as many steps as y takes, for each y.
    """
    f = [None] * one.size
    f[one.neutral] = other.neutral
    fresh = [one.neutral]
    while fresh:
        x = fresh.pop()
        for y, value in zip(subset, values):
            xy = one.table[x][y]
            told = other.table[f[x]][value]
            if f[xy] is None:
                f[xy] = told
                fresh.append(xy)
            elif f[xy] != told:
                return None
    return tuple(f)


def value_rows(one, other, most):
    """All tuples of values for generators(one), ascending, if they are not more than most."""
    count = len(generators(one))
    many = 1
    for _ in range(count):
        many = many * other.size
    if many > most:
        raise TooMany("rows")
    rows = [()]
    for _ in range(count):
        rows = [row + (value,) for row in rows for value in range(other.size)]
    return tuple(rows)


def all_homs(one, other):
    """All homomorphisms from one to other, ascending."""
    return _homs_of_rows(one, other, value_rows(one, other, MOST_ROWS))


def _homs_of_rows(one, other, rows):
    """The homomorphisms that have one of the rows as values for generators(one), ascending."""
    subset = generators(one)
    found = [_carried_on(one, other, subset, row) for row in rows]
    return tuple(sorted([f for f in found if f is not None]))


def kernel(one, other, f):
    """The subset of the elements at which a homomorphism has the neutral element."""
    _require_hom(one, other, f)
    return tuple([x for x in range(one.size) if f[x] == other.neutral])


def image(one, other, f):
    """The subset of all values of a homomorphism."""
    _require_hom(one, other, f)
    return tuple(sorted(set(f)))


def _require_hom(one, other, f):
    """Raise what is told for a value that is no map, or a map that is no homomorphism."""
    if not is_hom(one, other, f):
        raise Undefined("hom")


def agreement(f, g):
    """At how many places two maps of one length are alike."""
    return len([place for place in range(len(f)) if f[place] == g[place]])


def greatest_agreement(one, other):
    """The greatest agreement of two unlike homomorphisms, or None if there is one alone."""
    homs = list(_homs_of_rows(one, other, value_rows(one, other, _MOST_COMPARED_ROWS)))
    if len(homs) == 1:
        return None
    return max([agreement(f, g) for f, g in combinations(homs, 2)])
