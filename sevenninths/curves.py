"""Polynomials over a prime: the one that is near a table, its values, the places at which they differ."""

from sevenninths.checks import is_number_row, require_within
from sevenninths.errors import InvalidMap
from sevenninths.steps import require_degree_table, require_place_prime, require_values, step_votes

_MOST_FACTORS = 5


def close_curve(p, d, f):
    """The one polynomial of degree d at most that differs from f at w places, 2 (d + 1) w below p, or None."""
    require_degree_table(p, d, f)
    # If there is one, it is what is voted; so it is enough to judge the polynomial of the voted values.
    voted = [_most_voted(step_votes(p, d, f, x)) for x in range(p)]
    curve = tuple([_factor(p, voted, k) for k in range(d + 1)])
    if 2 * (d + 1) * len(_wrong_places(p, curve, f)) < p:
        return curve
    return None


def _most_voted(counts):
    """The least number with most votes."""
    return counts.index(max(counts))


def _factor(p, values, k):
    """The factor of x to the power k in the polynomial of degree p - 2 at most that has these values."""
    # All numbers below p to one power e add up to -1 if e is a multiple of p - 1 above 0, otherwise to 0.
    # So of the values times x to the power p - 1 - k just this factor is left over, below 0.
    return -sum([value * _power(p, x, p - 1 - k) for x, value in enumerate(values)]) % p


def _power(p, x, k):
    """The product of k factors x modulo p."""
    reached = 1
    for _ in range(k):
        reached = reached * x % p
    return reached


def value_at(p, curve, x):
    """The value of the polynomial at x."""
    require_place_prime(p)
    _require_curve(p, curve)
    require_within(x, 0, p - 1)
    return _value(p, curve, x)


def _require_curve(p, curve):
    """Raise InvalidMap unless curve is a tuple of 1 to 5 numbers below p."""
    if not isinstance(curve, tuple) or not 1 <= len(curve) <= _MOST_FACTORS:
        raise InvalidMap(curve)
    if not is_number_row(curve, len(curve), p):
        raise InvalidMap(curve)


def _value(p, curve, x):
    """The value at x of a polynomial that is judged."""
    reached = 0
    for factor in reversed(curve):
        reached = (reached * x + factor) % p
    return reached


def wrong_on(p, curve, f):
    """The places at which the polynomial and the table differ, rising."""
    require_place_prime(p)
    _require_curve(p, curve)
    require_values(p, f)
    return _wrong_places(p, curve, f)


def _wrong_places(p, curve, f):
    """The places at which a polynomial and a table that are judged differ."""
    return tuple([x for x in range(p) if _value(p, curve, x) != f[x]])
