import itertools
import time
import unittest

from sevenninths.curves import close_curve, value_at, wrong_on
from sevenninths.errors import InvalidMap, InvalidNumber
from sevenninths.shares import Share
from sevenninths.steps import is_near, step_votes
from tests.helper import NO_INTEGERS, NO_SEQUENCES, drawing, raised
from tests.test_steps import (FIGURES, NO_PRIMES, PRIMES, degrees, drawn_tables, no_degrees, no_tables, turned,
                              value_of, values_of)


def most_turned(p, d):
    """The greatest w with 2 (d + 1) w below p."""
    return (p - 1) // (2 * (d + 1))


def unlike(p, curve, f):
    return [x for x in range(p) if value_of(p, curve, x) != f[x]]


def near_curves(p, d, f):
    """All polynomials of degree d at most that are as near to f as close_curve asks for."""
    curves = itertools.product(range(p), repeat=d + 1)
    return [curve for curve in curves if 2 * (d + 1) * len(unlike(p, curve, f)) < p]


def around(p, f, most):
    """All tables that differ from f at so many places at most."""
    every = {f}
    for _ in range(most):
        every |= {g[:x] + (value,) + g[x + 1:] for g in every for x in range(p) for value in range(p)}
    return sorted(every)


def no_curves(p):
    """Values that are no tuple of 1 to 5 numbers below p."""
    found = [(), [], [0], [0, 1], (0,) * 6, (1,) * 6, (0,) * 7, [0] * 5, ((0,),), (0,) * p + (p,), "0", (0,) * 101]
    for value in NO_INTEGERS + (-1, p, p + 1, FIGURES, Share(0, 1), Share(1, 1)):
        found += [(value,), (0, value), (value, 0, 0, 0, 0), (0, 0, 0, 0, value)]
    return found + list(NO_SEQUENCES) + [value for value in NO_INTEGERS if value != (1,)]


class CloseCurveTest(unittest.TestCase):
    def test_polynomials_turned_at_as_many_places_as_may_be(self):
        draw = drawing(141)
        for p in PRIMES:
            for d in degrees(p):
                most = most_turned(p, d)
                for w in {0, min(1, most), most} if p < 60 else {most}:
                    curve = tuple(draw.randrange(p) for _ in range(d + 1))
                    f = turned(p, values_of(p, curve), w, draw)
                    for _ in range(2 if p < 20 else 1):
                        self.assertEqual(close_curve(p=p, d=d, f=f), curve)

    def test_all_tables_of_the_least_primes(self):
        for p in (2, 3, 5):
            for d in degrees(p):
                near = {}
                for curve in itertools.product(range(p), repeat=d + 1):
                    for f in around(p, values_of(p, curve), most_turned(p, d)):
                        near.setdefault(f, []).append(curve)
                for f in itertools.product(range(p), repeat=p):
                    found = close_curve(p, d, f)
                    self.assertEqual([] if found is None else [found], near.get(f, []))
                self.assertTrue(0 < len(near) < p ** p)

    def test_tables_turned_at_more_places(self):
        draw = drawing(142)
        met = set()
        for p in (7, 11, 13):
            for d in (0, 1, 2):
                for w in range(most_turned(p, d), p + 1):
                    f = turned(p, values_of(p, tuple(draw.randrange(p) for _ in range(d + 1))), w, draw)
                    told = near_curves(p, d, f)
                    found = close_curve(p, d, f)
                    self.assertEqual([] if found is None else [found], told)
                    met.add((d, found is None))
        self.assertEqual(met, {(d, none) for d in (0, 1, 2) for none in (True, False)})

    def test_just_too_many_places(self):
        draw = drawing(143)
        for p in (2, 3, 5, 7, 11, 23, 41, 101):
            for d in degrees(p):
                # A second polynomial that is this near differs from the first one at d places less than p at least.
                w = most_turned(p, d) + 1
                if w + most_turned(p, d) < p - d:
                    f = turned(p, values_of(p, tuple(draw.randrange(p) for _ in range(d + 1))), w, draw)
                    self.assertIsNone(close_curve(p, d, f))

    def test_shown_ones(self):
        self.assertEqual(close_curve(2, 0, (1, 1)), (1,))
        self.assertIsNone(close_curve(2, 0, (0, 1)))
        self.assertEqual(close_curve(3, 0, (2, 0, 2)), (2,))
        self.assertEqual(close_curve(5, 1, (1, 3, 0, 2, 0)), (1, 2))
        self.assertIsNone(close_curve(5, 1, (1, 3, 0, 0, 0)))
        # The highest factors are told even if they are 0.
        self.assertEqual(close_curve(11, 4, (3,) * 11), (3, 0, 0, 0, 0))
        self.assertEqual(close_curve(11, 4, (3,) * 10 + (4,)), (3, 0, 0, 0, 0))
        self.assertEqual(close_curve(7, 2, (0, 1, 4, 2, 2, 0, 1)), (0, 0, 1))

    def test_what_the_document_says_of_it(self):
        draw = drawing(144)
        for p in (2, 3, 5, 7, 11, 13, 19, 31, 43):
            for f in drawn_tables(p, draw, 2):
                for d in degrees(p):
                    curve = close_curve(p, d, f)
                    near = is_near(p, d, f)
                    if curve is None:
                        self.assertFalse(near)
                        continue
                    w = len(unlike(p, curve, f))
                    for x in range(p) if p < 20 else (0, 7, p - 1):
                        votes = step_votes(p, d, f, x)
                        right = votes[value_of(p, curve, x)]
                        self.assertLessEqual(p - right, (d + 1) * w)
                        self.assertGreater(2 * right, p)
                        if near:
                            self.assertGreater((d + 3) * right, (d + 2) * p)
                    if near:
                        self.assertLess((d + 1) * (d + 3) * w, p)

    def test_greatest_primes_are_quick(self):
        draw = drawing(145)
        start = time.process_time()
        for d in range(5):
            curve = tuple(draw.randrange(101) for _ in range(d + 1))
            f = turned(101, values_of(101, curve), most_turned(101, d), draw)
            self.assertEqual(close_curve(101, d, f), curve)
            close_curve(101, d, tuple(draw.randrange(101) for _ in range(101)))
        self.assertLess(time.process_time() - start, 10)


class ValueTest(unittest.TestCase):
    def test_values(self):
        draw = drawing(146)
        for p in PRIMES:
            for count in range(1, 6):
                curve = tuple(draw.randrange(p) for _ in range(count))
                for x in {0, 1, p // 2, p - 1}:
                    for _ in range(2):
                        self.assertEqual(value_at(p=p, curve=curve, x=x), value_of(p, curve, x))

    def test_shown_ones(self):
        self.assertEqual([value_at(7, (1, 2, 3), x) for x in range(7)], [1, 6, 3, 6, 1, 2, 2])
        self.assertEqual([value_at(2, (0, 1, 1, 1, 1), x) for x in (0, 1)], [0, 0])
        self.assertEqual([value_at(3, (2,), x) for x in (0, 1, 2)], [2, 2, 2])
        self.assertEqual(value_at(101, (0, 0, 0, 0, 1), 100), 1)

    def test_wrong_places(self):
        draw = drawing(147)
        for p in PRIMES:
            for count in range(1, 6):
                curve = tuple(draw.randrange(p) for _ in range(count))
                for w in {0, 1, p // 2, p}:
                    f = turned(p, values_of(p, curve), w, draw)
                    told = unlike(p, curve, f)
                    self.assertEqual(len(told), w)
                    for _ in range(2):
                        self.assertEqual(wrong_on(p=p, curve=curve, f=f), tuple(told))
        self.assertEqual(wrong_on(5, (1, 2), (1, 3, 0, 2, 0)), (4,))
        self.assertEqual(wrong_on(5, (1, 2), (1, 3, 0, 2, 4)), ())
        self.assertEqual(wrong_on(5, (1, 2), (0, 0, 0, 0, 0)), (0, 1, 3, 4))


class WrongTest(unittest.TestCase):
    def test_no_primes(self):
        for p in NO_PRIMES:
            for value in ((0, 0, 0), (0,), None, [0]):
                for x in (0, -1, None):
                    self.assertIs(raised(InvalidNumber, close_curve, p, x, value).value, p)
                    self.assertIs(raised(InvalidNumber, value_at, p, value, x).value, p)
                    self.assertIs(raised(InvalidNumber, wrong_on, p, value, x).value, p)

    def test_close_curve(self):
        for p in PRIMES:
            for d in no_degrees(p):
                for f in ((0,) * p, None, [0] * p):
                    self.assertIs(raised(InvalidNumber, close_curve, p, d, f).value, d)
        for p in (2, 3, 7, 101):
            for value in no_tables(p, (0,) * (p - 1) + (p - 1,)):
                for d in degrees(p):
                    for _ in range(2):
                        self.assertIs(raised(InvalidMap, close_curve, p, d, value).value, value)

    def test_curves_ahead_of_places_and_tables(self):
        for p in (2, 3, 7, 101):
            wrong = no_curves(p)
            self.assertEqual(len([value for value in wrong if isinstance(value, tuple) and len(value) == 6]), 2)
            for value in wrong:
                for x in (0, p, None):
                    self.assertIs(raised(InvalidMap, value_at, p, value, x).value, value)
                for f in ((0,) * p, None, [0] * p, (0,)):
                    self.assertIs(raised(InvalidMap, wrong_on, p, value, f).value, value)

    def test_places(self):
        for p in PRIMES:
            for x in NO_INTEGERS + (-1, p, p + 1, -p, FIGURES, Share(0, 1)):
                for count in (1, 5):
                    self.assertIs(raised(InvalidNumber, value_at, p, (1,) * count, x=x).value, x)

    def test_tables(self):
        for p in (2, 3, 7, 101):
            for value in no_tables(p, (0,) * (p - 1) + (p - 1,)):
                for count in (1, 5):
                    self.assertIs(raised(InvalidMap, wrong_on, p, (1,) * count, f=value).value, value)
