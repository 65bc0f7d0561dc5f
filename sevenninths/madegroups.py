"""Groups of well-known kinds, and new ones from given ones."""

from itertools import permutations

from sevenninths.checks import is_member_row, require_from, require_within
from sevenninths.errors import InvalidSubset, TooMany
from sevenninths.groups import MOST_MEMBERS, Group

_MOST_TURNS = 24
_MOST_PERMUTED = 4


def cyclic_group(n):
    """The numbers below n, added modulo n."""
    require_within(n, 1, MOST_MEMBERS)
    return Group([[(x + y) % n for y in range(n)] for x in range(n)])


def product_group(one, other):
    """The pairs (x, y) of elements of two groups, as x * other.size + y."""
    if one.size * other.size > MOST_MEMBERS:
        raise TooMany("elements")
    size = other.size
    return Group([[left * size + right for left in one_row for right in other_row]
                  for one_row in one.table for other_row in other.table])


def vector_group(base, length):
    """The tuples of so many numbers below base, each as the number that has them for its digits."""
    require_within(base, 2, MOST_MEMBERS)
    require_from(length, 1)
    digit = cyclic_group(base)
    group = digit
    placed = 1
    # A length may be huge, but the size is soon too large: product_group raises then.
    while placed < length:
        group = product_group(group, digit)
        placed += 1
    return group


def dihedral_group(n):
    """The turns a and the mirrored ones of a polygon with n corners, (a, s) as a + n * s."""
    require_within(n, 1, _MOST_TURNS)
    members = [(a, s) for s in range(2) for a in range(n)]
    return _group_of(members, [[_turned(n, x, y) for y in members] for x in members])


def _turned(n, x, y):
    """The product of two elements (a, s) of a dihedral group."""
    a, s = x
    b, t = y
    if s == 0:
        return ((a + b) % n, t)
    return ((a - b) % n, (1 + t) % 2)


def symmetric_group(k):
    """All permutations of the numbers below k, ascending; the right one of two is done first."""
    require_within(k, 1, _MOST_PERMUTED)
    members = sorted(permutations(range(k)))
    return _group_of(members, [[tuple([x[place] for place in y]) for y in members] for x in members])


def quaternion_group():
    """The units 1, i, j, k and the same with the sign changed, unit u with sign s as 2 * u + s."""
    members = [(u, s) for u in range(4) for s in range(2)]
    return _group_of(members, [[_signed_unit(x, y) for y in members] for x in members])


def _signed_unit(x, y):
    """The product of two quaternions (u, s)."""
    u, s = x
    v, t = y
    unit, sign = _unit_product(u, v)
    return (unit, (s + t + sign) % 2)


def _unit_product(u, v):
    """The product of two units without signs: its unit and its sign."""
    if u == 0 or v == 0:
        return (u + v, 0)
    if u == v:
        return (0, 1)
    # i, j, k stand in a circle: a unit times the next one is the third, the other way round it changes sign.
    third = 6 - u - v
    if (v - u) % 3 == 1:
        return (third, 0)
    return (third, 1)


def _group_of(members, products):
    """The group of the members, numbered in their order, from the rows of their products."""
    numbers = {member: number for number, member in enumerate(members)}
    return Group([[numbers[member] for member in row] for row in products])


def renamed_group(group, order):
    """The group whose element i is element order[i] of the given one."""
    if not is_member_row(group, order, group.size) or len(set(order)) != group.size:
        raise InvalidSubset(order)
    return _group_of(order, [[group.table[x][y] for y in order] for x in order])
