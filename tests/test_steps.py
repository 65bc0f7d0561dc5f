import itertools
import math
import time
import unittest

from sevenninths.errors import InvalidMap, InvalidNumber
from sevenninths.shares import Share
from sevenninths.steps import broken_steps, degree, differences, is_near, step_votes
from tests.helper import NO_INTEGERS, NO_SEQUENCES, drawing, raised

FIGURES = 10 ** 30 - 1
PRIMES = [p for p in range(2, 102) if all(p % k for k in range(2, p))]
NO_PRIMES = NO_INTEGERS + tuple(k for k in range(-3, 130) if k not in PRIMES) + (-2, -7, 2 ** 61 - 1, FIGURES, Share(7, 1))
NO_DEGREES = NO_INTEGERS + (-1, 5, 6, -4, 97, 101, FIGURES, -FIGURES, Share(1, 1))


def degrees(p):
    """The degrees that tables over p may be asked for."""
    return [d for d in range(5) if d + 2 <= p]


def no_degrees(p):
    return NO_DEGREES + tuple(d for d in range(5) if d + 2 > p)


def value_of(p, curve, x):
    """The value at x of a polynomial, its factors counted from the constant one."""
    return sum(c * x ** k for k, c in enumerate(curve)) % p


def values_of(p, curve):
    return tuple(value_of(p, curve, x) for x in range(p))


def times_line(p, curve, root):
    """The polynomial times (x - root)."""
    return [(a - root * b) % p for a, b in zip([0] + curve, curve + [0])]


def polynomial_of(p, f):
    """The factors of the one polynomial of degree p - 1 at most with these values, by Lagrange's formula."""
    total = [0] * p
    for x in range(p):
        part, scale = [1], f[x]
        for root in range(p):
            if root != x:
                part = times_line(p, part, root)
                scale = scale * pow(x - root, -1, p) % p
        total = [(a + scale * b) % p for a, b in zip(total, part)]
    return total


def plain_degree(p, f):
    return max([k for k, c in enumerate(polynomial_of(p, f)) if c], default=-1)


def plain_sum(p, d, f, x, h):
    """The step sum of (x, h)."""
    return sum((-1) ** i * math.comb(d + 1, i) * f[(x + i * h) % p] for i in range(d + 2)) % p


def plain_broken_steps(p, d, f):
    return sum(plain_sum(p, d, f, x, h) != 0 for x in range(p) for h in range(p))


def plain_step_votes(p, d, f, x):
    """For each v the h for which the sum is 0 if v stands in the place of the first member alone."""
    def fits(v, h):
        rest = sum((-1) ** i * math.comb(d + 1, i) * f[(x + i * h) % p] for i in range(1, d + 2))
        return (v + rest) % p == 0
    return tuple(sum(fits(v, h) for h in range(p)) for v in range(p))


def turned(p, f, count, draw):
    """The table with other numbers at just so many places."""
    g = list(f)
    for place in draw.sample(range(p), count):
        g[place] = (g[place] + draw.randrange(1, p)) % p
    return tuple(g)


def drawn_curve(p, d, draw):
    """A polynomial of just this degree."""
    return tuple(draw.randrange(p) for _ in range(d)) + (draw.randrange(1, p),)


def drawn_tables(p, draw, count):
    """Tables: zeros, constants, polynomials of all degrees, the same with some places turned, any at all."""
    found = [(0,) * p, (1,) * p, (p - 1,) * p, tuple(range(p)), values_of(p, (0,) * (p - 1) + (1,))]
    for _ in range(count):
        f = values_of(p, drawn_curve(p, draw.choice(degrees(p)), draw))
        found += [f, turned(p, f, 1, draw), turned(p, f, draw.randrange(p), draw)]
        found.append(tuple(draw.randrange(p) for _ in range(p)))
    return found


def no_tables(p, f):
    """Values that are no tuple of p numbers below p, most of them made from the table f."""
    found = [list(f), f + (0,), f[1:], f + f, (f,), (), (0,) * 102, tuple(float(x) for x in f), "0" * p]
    for value in NO_INTEGERS + (-1, p, p + 1, FIGURES, Share(0, 1)):
        found += [(value,) + f[1:], f[:-1] + (value,), f[:p // 2] + (value,) + f[p // 2 + 1:]]
    return found + list(NO_SEQUENCES) + [value for value in NO_INTEGERS if value != (1,)]


def all_tables():
    """All tables over the least primes."""
    return [(p, f) for p in (2, 3, 5) for f in itertools.product(range(p), repeat=p)]


class DifferencesTest(unittest.TestCase):
    def test_all_primes(self):
        draw = drawing(131)
        for p in PRIMES:
            for f in drawn_tables(p, draw, 1):
                for _ in range(2):
                    told = tuple(((f + f)[x + 1] - f[x]) % p for x in range(p))
                    self.assertEqual(differences(p=p, f=f), told)
                self.assertIs(type(differences(p, f)), tuple)

    def test_shown_ones(self):
        self.assertEqual(differences(5, (0, 1, 4, 4, 1)), (1, 3, 0, 2, 4))
        self.assertEqual(differences(2, (0, 1)), (1, 1))
        self.assertEqual(differences(3, (2, 2, 2)), (0, 0, 0))
        self.assertEqual(differences(7, (0, 0, 0, 0, 0, 0, 1)), (0, 0, 0, 0, 0, 1, 6))


class DegreeTest(unittest.TestCase):
    def test_against_the_polynomial_of_a_table(self):
        draw = drawing(132)
        met = set()
        for p, f in all_tables()[::7] + [(p, f) for p in (2, 3, 5, 7, 11, 13) for f in drawn_tables(p, draw, 4)]:
            told = plain_degree(p, f)
            for _ in range(2):
                self.assertEqual(degree(p=p, f=f), told)
            met.add((p, told))
        for p in (2, 3, 5):
            self.assertEqual({told for prime, told in met if prime == p}, set(range(-1, p)))

    def test_zeros_constants_and_each_power(self):
        for p in PRIMES:
            self.assertEqual(degree(p, (0,) * p), -1)
            self.assertEqual({degree(p, (c,) * p) for c in (1, p // 2 or 1, p - 1)}, {0})
            for k in {1, 2, 3, 4, p // 2, p - 2, p - 1} & set(range(1, p)):
                f = tuple(pow(x, k, p) for x in range(p))
                self.assertEqual(degree(p, f), k)
            # A single place that is not 0 makes the greatest degree of all.
            self.assertEqual(degree(p, (0,) * (p - 1) + (1,)), p - 1)

    def test_any_table(self):
        draw = drawing(133)
        for p in PRIMES:
            f = tuple(draw.randrange(p) for _ in range(p))
            self.assertTrue(-1 <= degree(p, f) < p)
            for d in range(min(p, 8)):
                self.assertEqual(degree(p, values_of(p, drawn_curve(p, d, draw))), d)


class BrokenStepsTest(unittest.TestCase):
    def test_a_plain_count(self):
        draw = drawing(134)
        for p in (2, 3, 5, 7, 11, 13, 17):
            for f in drawn_tables(p, draw, 2):
                for d in degrees(p):
                    told = plain_broken_steps(p, d, f)
                    for _ in range(2):
                        self.assertEqual(broken_steps(p=p, d=d, f=f), told)
                    self.assertIs(is_near(p=p, d=d, f=f), told * (d + 1) * (d + 3) ** 2 < (d + 2) * p * p)

    def test_all_tables_of_the_least_primes(self):
        for p, f in all_tables()[::3]:
            for d in degrees(p):
                told = plain_broken_steps(p, d, f)
                self.assertEqual(broken_steps(p, d, f), told)
                self.assertIs(is_near(p, d, f), told * (d + 1) * (d + 3) ** 2 < (d + 2) * p * p)

    def test_shown_ones(self):
        self.assertEqual(broken_steps(2, 0, (0, 1)), 2)
        self.assertEqual(broken_steps(5, 1, (1, 0, 0, 0, 0)), 12)
        self.assertEqual(broken_steps(5, 3, (0, 1, 4, 4, 1)), 0)
        self.assertEqual(broken_steps(5, 1, (0, 1, 4, 4, 1)), 20)
        # One place of p that is turned breaks (d + 2) (p - 1) steps.
        for p in (5, 7, 13):
            for d in degrees(p):
                self.assertEqual(broken_steps(p, d, (0,) * (p - 1) + (1,)), (d + 2) * (p - 1))

    def test_near_tables(self):
        draw = drawing(135)
        met = set()
        for p in (2, 7, 11, 23, 31, 37):
            for d in degrees(p):
                for w in range(4):
                    f = turned(p, values_of(p, drawn_curve(p, d, draw)), min(w, p), draw)
                    near = is_near(p, d, f)
                    self.assertIs(near, broken_steps(p, d, f) * (d + 1) * (d + 3) ** 2 < (d + 2) * p * p)
                    met.add((d, w, near))
                    # For d = 3 and 4 no table but a polynomial is near.
                    self.assertFalse(near and d > 2 and degree(p, f) > d)
        self.assertLessEqual({(d, 0, True) for d in range(5)} | {(0, 3, True), (1, 1, True), (2, 2, False)}, met)

    def test_the_edge_of_nearness(self):
        # One of p places is turned: (d + 2) (p - 1) steps are broken, so (p - 1) (d + 1) (d + 3) (d + 3) and p p are
        # compared; for d = 2 that is 75 (p - 1), so 73 is not near and 79 is.
        for d, far, near in ((0, 7, 11), (1, 29, 31), (2, 73, 79), (3, 101, None), (4, 101, None)):
            for p, told in ((far, False), (near, True)):
                if p is not None:
                    self.assertIs(is_near(p, d, (0,) * (p - 1) + (1,)), told)


class StepVotesTest(unittest.TestCase):
    def test_a_plain_count(self):
        draw = drawing(136)
        for p in (2, 3, 5, 7, 11, 13):
            for f in drawn_tables(p, draw, 2):
                for d in degrees(p):
                    for x in {0, 1, draw.randrange(p), p - 1}:
                        told = plain_step_votes(p, d, f, x)
                        for _ in range(2):
                            self.assertEqual(step_votes(p=p, d=d, f=f, x=x), told)
                        self.assertEqual((type(step_votes(p, d, f, x)), sum(told)), (tuple, p))

    def test_all_tables_of_the_least_primes(self):
        for p, f in all_tables()[::5]:
            for d in degrees(p):
                for x in range(p):
                    self.assertEqual(step_votes(p, d, f, x), plain_step_votes(p, d, f, x))

    def test_shown_ones(self):
        # The step of length 0 votes for the number that is there, all others for the line.
        self.assertEqual(step_votes(5, 1, (3, 1, 2, 3, 4), 0), (4, 0, 0, 1, 0))
        self.assertEqual(step_votes(2, 0, (0, 1), 0), (1, 1))
        self.assertEqual(step_votes(7, 2, (0, 1, 4, 2, 2, 4, 1), 3), (0, 0, 7, 0, 0, 0, 0))
        self.assertEqual(step_votes(3, 0, (2, 0, 1), 1), (1, 1, 1))


class PromisesTest(unittest.TestCase):
    def check(self, p, d, f):
        count = broken_steps(p, d, f)
        self.assertEqual(count == 0, degree(p, f) <= d)
        for x in {0, p // 2, p - 1}:
            for votes in step_votes(p, d, f, x):
                self.assertLessEqual(votes * (p - votes), (d + 1) * count)

    def test_no_broken_steps_and_votes(self):
        draw = drawing(137)
        for p in PRIMES:
            tables = drawn_tables(p, draw, 2 if p < 40 else 1)
            for f in tables if p < 40 else draw.sample(tables, 2):
                for d in degrees(p):
                    self.check(p, d, f)
        for p, f in all_tables()[::3]:
            for d in degrees(p):
                self.check(p, d, f)

    def test_tables_that_differ_at_w_places(self):
        draw = drawing(138)
        for p in (2, 3, 5, 7, 11, 13, 17, 19, 23, 29, 101):
            for d in degrees(p):
                for w in range(min(p + 1, 8)) if p < 30 else (1, 7):
                    curve = tuple(draw.randrange(p) for _ in range(d + 1))
                    f = turned(p, values_of(p, curve), w, draw)
                    self.assertGreaterEqual(broken_steps(p, d, f), (d + 2) * w * (p - 1 - (d + 1) * (w - 1)))

    def test_greatest_primes_are_quick(self):
        draw = drawing(139)
        f = tuple(draw.randrange(101) for _ in range(101))
        start = time.process_time()
        for d in range(5):
            broken_steps(101, d, f)
            is_near(101, d, f)
            step_votes(101, d, f, 100)
        self.assertEqual(degree(101, f), plain_degree(101, f))
        self.assertLess(time.process_time() - start, 5)


class WrongTest(unittest.TestCase):
    def calls(self, p, d, f, x):
        return ((differences, (p, f)), (degree, (p, f)), (broken_steps, (p, d, f)), (is_near, (p, d, f)),
                (step_votes, (p, d, f, x)))

    def test_no_primes(self):
        for p in NO_PRIMES:
            for d, f, x in ((0, (0,) * 4, 0), (None, None, None), (9, [0, 0], -1)):
                for call, given in self.calls(p, d, f, x):
                    for _ in range(2):
                        self.assertIs(raised(InvalidNumber, call, *given).value, p)

    def test_no_degrees(self):
        for p in PRIMES:
            for d in no_degrees(p):
                for f, x in (((0,) * p, 0), (None, None), ([0] * p, p)):
                    for call, given in self.calls(p, d, f, x)[2:]:
                        self.assertIs(raised(InvalidNumber, call, *given).value, d)

    def test_least_primes_have_few_degrees(self):
        for p, most in ((2, 0), (3, 1), (5, 3), (7, 4), (11, 4), (101, 4)):
            for d in range(7):
                for call, given in self.calls(p, d, (0,) * p, 0)[2:]:
                    if d <= most:
                        call(*given)
                    else:
                        self.assertEqual(raised(InvalidNumber, call, *given).value, d)

    def test_no_tables(self):
        for p in (2, 3, 5, 7, 53, 97, 101):
            for value in no_tables(p, (0,) * (p - 1) + (p - 1,)):
                for x in (0, p, None):
                    for call, given in self.calls(p, 0, value, x):
                        self.assertIs(raised(InvalidMap, call, *given).value, value)
        for p in PRIMES:
            for size in {2, 3, 5, 7, 11, p - 1, p + 1, 101} - {p}:
                for call, given in self.calls(p, 0, (0,) * size, 0):
                    self.assertEqual(raised(InvalidMap, call, *given).value, (0,) * size)

    def test_no_places(self):
        for p in (2, 3, 7, 101):
            for x in NO_INTEGERS + (-1, p, p + 1, -p, FIGURES, Share(0, 1)):
                for d in degrees(p):
                    for _ in range(2):
                        self.assertIs(raised(InvalidNumber, step_votes, p, d, (1,) * p, x=x).value, x)
