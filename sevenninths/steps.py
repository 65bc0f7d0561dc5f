"""Tables over a prime: differences, degrees, and how well the values fit along steps."""

from math import comb

from sevenninths.checks import is_number_row, require_prime, require_within
from sevenninths.errors import InvalidMap, InvalidNumber

_MOST_PRIME = 101
_MOST_DEGREE = 4


def require_place_prime(p):
    """Raise InvalidNumber unless p is a prime that tables of this kind can have."""
    require_prime(p, _MOST_PRIME)


def require_values(p, f):
    """Raise InvalidMap unless f is a tuple of p numbers below p."""
    if not is_number_row(f, p, p):
        raise InvalidMap(f)


def require_degree_table(p, d, f):
    """Raise what is told unless p is a prime, d a degree whose steps fit into p places, and f a table."""
    require_place_prime(p)
    require_within(d, 0, _MOST_DEGREE)
    if d + 2 > p:
        raise InvalidNumber(d)
    require_values(p, f)


def differences(p, f):
    """The differences of each value from the one at the next place, modulo p."""
    require_place_prime(p)
    require_values(p, f)
    return _differences(p, f)


def _differences(p, f):
    """The differences of a table that is judged."""
    return tuple([(f[(x + 1) % p] - f[x]) % p for x in range(p)])


def degree(p, f):
    """The degree of the polynomial that has the values f; -1 for zeros alone."""
    require_place_prime(p)
    require_values(p, f)
    taken = 0
    # Differences that are taken p times are zeros for any table.
    while any([value != 0 for value in f]):
        f = _differences(p, f)
        taken += 1
    return taken - 1


def broken_steps(p, d, f):
    """The number of pairs (x, h) whose step sum is not 0."""
    require_degree_table(p, d, f)
    factors = _step_factors(d)
    return len([h for x in range(p) for h in range(p) if _step_sum(p, factors, f, x, h) != 0])


def _step_factors(d):
    """The factors of the d + 2 members of a step sum."""
    return [comb(d + 1, i) * (1 - 2 * (i % 2)) for i in range(d + 2)]


def _step_sum(p, factors, f, x, h):
    """The sum of the values at x, x + h, x + 2 h and so on, each times its factor, modulo p."""
    return sum([factor * f[(x + i * h) % p] for i, factor in enumerate(factors)]) % p


def step_votes(p, d, f, x):
    """For each number the number of steps from x whose sum is 0 with this number as the first member."""
    require_degree_table(p, d, f)
    require_within(x, 0, p - 1)
    factors = _step_factors(d)
    counts = [0] * p
    for h in range(p):
        # The first member has the factor 1, so the number is the value at x less the sum.
        counts[(f[x] - _step_sum(p, factors, f, x, h)) % p] += 1
    return tuple(counts)


def is_near(p, d, f):
    """Whether so few steps are broken that a polynomial of degree d at most is behind f."""
    return broken_steps(p, d, f) * (d + 1) * (d + 3) * (d + 3) < (d + 2) * p * p
