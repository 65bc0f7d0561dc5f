"""How wrong a map is: its broken pairs, its votes, and the homomorphisms nearest to it."""

from sevenninths.checks import require_from, require_map, require_member, require_within
from sevenninths.homs import agreement, all_homs
from sevenninths.shares import Share


def broken(one, other, f):
    """The number of pairs (x, y) for which f(x)f(y) is not f(xy)."""
    require_map(one, other, f)
    count = 0
    for x, row in enumerate(one.table):
        products = other.table[f[x]]
        count += len([y for y, xy in enumerate(row) if products[f[y]] != f[xy]])
    return count


def broken_share(one, other, f):
    """The share of the broken pairs among all pairs."""
    return Share.of(broken(one, other, f), one.size * one.size)


def wrong_places(f, g):
    """The places at which two maps of one length differ, rising."""
    return tuple([place for place in range(len(f)) if f[place] != g[place]])


def votes(one, other, f, x):
    """For each element h of other the number of elements y for which f(xy)f(y)^-1 is h."""
    require_map(one, other, f)
    require_member(one, x)
    return _counted(one, other, f, _inverted(other, f), x)


def _inverted(other, f):
    """The inverses of the values of f."""
    return [other.inverse(value) for value in f]


def _counted(one, other, f, inverses, x):
    """The votes at x, by f and the inverses of its values."""
    counts = [0] * other.size
    for y, xy in enumerate(one.table[x]):
        counts[other.table[f[xy]][inverses[y]]] += 1
    return tuple(counts)


def voted(one, other, f):
    """The map that has at each place the least of the elements with most votes there."""
    require_map(one, other, f)
    inverses = _inverted(other, f)
    rows = [_counted(one, other, f, inverses, x) for x in range(one.size)]
    return tuple([row.index(max(row)) for row in rows])


def equal_votes(one, other, f, x):
    """The number of pairs (y, z) whose votes at x are equal."""
    return sum([count * count for count in votes(one, other, f, x)])


def least_broken(n, w):
    """How many broken pairs a map has at least that differs from a homomorphism at w of n places."""
    _require_wrong(n, w)
    return max(0, 3 * w * n - 6 * w * w)


def most_broken(n, w):
    """How many broken pairs a map has at most that differs from a homomorphism at w of n places."""
    _require_wrong(n, w)
    return min(n * n, 3 * w * n - 2 * w * w)


def _require_wrong(n, w):
    """Raise InvalidNumber unless n is a number of places and w one of wrong places among them."""
    require_from(n, 1)
    require_within(w, 0, n)


def nearest_homs(one, other, f):
    """The greatest agreement of f with a homomorphism, and the homomorphisms that have it, ascending."""
    require_map(one, other, f)
    homs = all_homs(one, other)
    most = max([agreement(f, hom) for hom in homs])
    return (most, tuple([hom for hom in homs if agreement(f, hom) == most]))
