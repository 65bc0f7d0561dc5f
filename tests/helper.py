"""Values and tables that several tests draw; every draw begins with a fixed seed."""

import itertools
import random

NO_INTEGERS = (None, True, False, "3", "", b"1", 1.0, 0.5, (1,), [1], (), [], {}, {1: 2}, object())
NO_SEQUENCES = (None, True, 3, 0, "01", "", b"01", {0: 1}, {0, 1}, range(2), 1.5, object())


def drawing(seed):
    """A source of draws that gives the same ones in each run."""
    return random.Random(seed)


def raised(kind, call, *given, **named):
    """The error of just this kind that the call raises."""
    try:
        result = call(*given, **named)
    except ValueError as error:
        assert error.__class__ is kind, f"{error.__class__.__name__} instead of {kind.__name__}"
        return error
    raise AssertionError(f"{kind.__name__} was not raised, but {result!r} returned")


def table_of(members, product):
    """The table of a product on members, which are numbered in their order."""
    places = {member: place for place, member in enumerate(members)}
    return tuple(tuple(places[product(x, y)] for y in members) for x in members)


def cyclic(n):
    """The table of addition modulo n."""
    return tuple(tuple((x + y) % n for y in range(n)) for x in range(n))


def words(*bases):
    """The table of tuples of numbers, each below its base, added place by place."""
    def total(x, y):
        return tuple((a + b) % base for a, b, base in zip(x, y, bases))
    return table_of(list(itertools.product(*[range(base) for base in bases])), total)


def permutations(k):
    """The table of all permutations of k numbers, the right one of two done first."""
    return table_of(list(itertools.permutations(range(k))), lambda x, y: tuple(x[place] for place in y))


def even_permutations(k):
    """The table of the permutations of k numbers with an even number of inversions."""
    def even(x):
        return sum(x[i] > x[j] for i in range(k) for j in range(i, k)) % 2 == 0
    kept = [x for x in itertools.permutations(range(k)) if even(x)]
    return table_of(kept, lambda x, y: tuple(x[place] for place in y))


def turns(n):
    """The table of the turns of a polygon and its mirror images, as permutations of its corners or sides."""
    def moved(a, s):
        return tuple((a - i if s else a + i) % n for i in range(n)) + (s,)

    def product(x, y):
        return tuple(x[i] for i in y[:n]) + ((x[n] + y[n]) % 2,)
    return table_of([moved(a, s) for s in (0, 1) for a in range(n)], product)


def quaternions():
    """The table of the eight quaternions 1, -1, i, -i, j, -j, k, -k, by the product of four coordinates."""
    def product(p, q):
        a, b, c, d = p
        e, f, g, h = q
        return (a * e - b * f - c * g - d * h, a * f + b * e + c * h - d * g,
                a * g - b * h + c * e + d * f, a * h + b * g - c * f + d * e)
    units = [tuple(sign * (place == unit) for place in range(4)) for unit in range(4) for sign in (1, -1)]
    return table_of(units, product)


def both(one, other):
    """The table of the pairs of two tables' elements."""
    pairs = [(x, y) for x in range(len(one)) for y in range(len(other))]
    return table_of(pairs, lambda p, q: (one[p[0]][q[0]], other[p[1]][q[1]]))


def renamed(table, order):
    """The table whose element i is element order[i] of the given one."""
    place = {old: new for new, old in enumerate(order)}
    return tuple(tuple(place[table[x][y]] for y in order) for x in order)


def shuffled(table, draw):
    """The table with its elements in another order."""
    order = list(range(len(table)))
    draw.shuffle(order)
    return renamed(table, order)


def tables():
    """Tables of groups of 1 to 48 elements, commutative and not, some with the neutral element not at 0."""
    draw = drawing(1)
    plain = [cyclic(n) for n in (1, 2, 3, 4, 5, 6, 7, 8, 9, 12, 16, 24, 30, 47, 48)]
    plain += [words(2, 2), words(2, 2, 2), words(3, 3), words(2, 4), words(2, 2, 2, 2), words(4, 12)]
    plain += [permutations(3), permutations(4), even_permutations(4), quaternions()]
    plain += [turns(n) for n in (1, 2, 3, 4, 5, 6, 12, 24)]
    plain += [both(quaternions(), cyclic(3)), both(permutations(3), words(2, 2)), both(turns(6), words(2, 2))]
    return plain + [shuffled(table, draw) for table in plain]


def small_tables(most):
    """Those of the tables that have at most so many elements."""
    return [table for table in tables() if len(table) <= most]


def neutral_of(table):
    """The neutral element of a group's table."""
    return next(e for e, row in enumerate(table) if row == tuple(range(len(table))))
