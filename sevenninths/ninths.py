"""Maps that are wrong at few places: the one homomorphism behind them, and where there is none."""

from sevenninths.checks import require_from, require_within
from sevenninths.errors import Undefined
from sevenninths.homs import is_hom
from sevenninths.madegroups import cyclic_group
from sevenninths.maps import broken, voted, wrong_places


def is_sure(one, other, f):
    """Whether fewer than two ninths of the pairs are broken."""
    return 9 * broken(one, other, f) < 2 * one.size * one.size


def hom_of(one, other, f):
    """The one homomorphism that a sure map equals at more than nine tenths of the places."""
    if not is_sure(one, other, f):
        raise Undefined("hom")
    # Of a sure map the votes alone tell it, so no other homomorphism is looked at.
    return voted(one, other, f)


def close_hom(one, other, f):
    """The one homomorphism that differs from f at fewer than a quarter of the places, or None."""
    # If there is one, it is what is voted; so it is enough to judge that map.
    told = voted(one, other, f)
    if 4 * len(wrong_places(f, told)) < one.size and is_hom(one, other, told):
        return told
    return None


def border_map(j):
    """Two cyclic groups and a map with just two ninths of its pairs broken, far from each homomorphism."""
    require_within(j, 1, 2)
    m = 3
    if j == 2:
        m = 9
    # The places 3 k - 1, 3 k and 3 k + 1 have k; one place less than 0 is the last one.
    f = [(x + 1) // 3 % m for x in range(3 * m)]
    return (cyclic_group(3 * m), cyclic_group(m), tuple(f))


def most_near(alike, places, size):
    """How many maps agree with f at so many places at most, if any two agree at alike ones at most."""
    require_from(size, 1)
    require_within(alike, 0, size)
    require_within(places, 0, size)
    beyond = places * places - alike * size
    if beyond <= 0:
        raise Undefined("bound")
    return (places - alike) * size // beyond
