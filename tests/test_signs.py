import functools
import itertools
import unittest

from sevenninths.errors import InvalidMap, InvalidNumber
from sevenninths.groups import Group
from sevenninths.maps import broken
from sevenninths.madegroups import cyclic_group, vector_group
from sevenninths.shares import Share
from sevenninths.signs import best_linear, broken_bits, signs
from tests.helper import NO_INTEGERS, NO_SEQUENCES, cyclic, drawing, raised, words

FIGURES = 10 ** 30 - 1


@functools.cache
def bits_of(n, x):
    """The digits of x to the base 2, n of them."""
    return tuple(int(figure) for figure in format(x, "b").zfill(n))


@functools.cache
def linear(n, a):
    """The table of the linear map a, by the bits of a and of each place."""
    told = bits_of(n, a)
    return tuple(sum(p * q for p, q in zip(told, bits_of(n, x))) % 2 for x in range(2 ** n))


@functools.cache
def plain_signs(n, f):
    rows = [linear(n, a) for a in range(2 ** n)]
    return tuple(sum(1 if p == q else -1 for p, q in zip(f, row)) for row in rows)


@functools.cache
def sum_of(n, x, y):
    """The place whose bits are the sums of those of x and y."""
    return int("".join(str((p + q) % 2) for p, q in zip(bits_of(n, x), bits_of(n, y))), 2)


def plain_broken_bits(n, f):
    every = range(2 ** n)
    return sum((f[x] + f[y]) % 2 != f[sum_of(n, x, y)] for x in every for y in every)


def bit_tables(n, count):
    """Tables of bits: all where there are few, otherwise any at all and linear maps with some bits changed."""
    if n <= 2:
        return list(itertools.product((0, 1), repeat=2 ** n))
    draw = drawing(120 + n)
    size = 2 ** n
    found = [(0,) * size, (1,) * size, linear(n, 1), linear(n, size - 1), tuple(1 - bit for bit in linear(n, size // 2))]
    for _ in range(count):
        f = list(linear(n, draw.randrange(size)))
        for place in draw.sample(range(size), draw.randrange(size // 2)):
            f[place] = 1 - f[place]
        found += [tuple(f), tuple(draw.randrange(2) for _ in range(size))]
    return found


def no_bit_tables(n, f):
    """Values that are no table of 2 to the power n bits, most of them made from the table f."""
    found = [list(f), f + (0,), f[1:], f + f, f[:len(f) // 2], (f,), tuple(float(x) for x in f), "0" * len(f), ()]
    for value in NO_INTEGERS + (-1, 2, 3, FIGURES, Share(0, 1), Share(1, 1)):
        found += [(value,) + f[1:], f[:-1] + (value,), f[:len(f) // 2] + (value,) + f[len(f) // 2 + 1:]]
    return found + list(NO_SEQUENCES) + [value for value in NO_INTEGERS if value != (1,)] + [(0,) * 256, (0,) * 129]


NO_COUNTS = NO_INTEGERS + (0, 8, 9, -1, -7, 128, FIGURES, Share(3, 1), Share(7, 1))


class SignsTest(unittest.TestCase):
    def test_signs(self):
        for n in range(1, 8):
            for f in bit_tables(n, 4):
                told = plain_signs(n, f)
                for _ in range(2):
                    self.assertEqual(signs(n=n, f=f), told)
                self.assertIs(type(signs(n, f)), tuple)
                self.assertEqual({type(sign) for sign in signs(n, f)}, {int})

    def test_shown_ones(self):
        self.assertEqual(signs(1, (0, 1)), (0, 2))
        self.assertEqual(signs(1, (1, 1)), (-2, 0))
        self.assertEqual(signs(2, (0, 0, 0, 1)), (2, 2, 2, -2))
        # The first bit counts most: linear map 1 has the last bit of a place, 2 the first one.
        self.assertEqual(signs(2, (0, 1, 0, 1)), (0, 4, 0, 0))
        self.assertEqual(signs(2, (0, 0, 1, 1)), (0, 0, 4, 0))
        self.assertEqual(signs(3, (0, 0, 0, 0, 1, 1, 1, 1)), (0, 0, 0, 0, 8, 0, 0, 0))
        self.assertEqual(signs(3, (0, 0, 0, 0, 1, 1, 1, 0)), (2, -2, -2, 2, 6, 2, 2, -2))

    def test_linear_maps_have_one_sign_alone(self):
        for n in range(1, 8):
            for a in {0, 1, 2 ** n // 2, 2 ** n - 1}:
                told = [0] * 2 ** n
                told[a] = 2 ** n
                self.assertEqual(signs(n, linear(n, a)), tuple(told))
                self.assertEqual((best_linear(n, linear(n, a)), broken_bits(n, linear(n, a))), (a, 0))

    def test_squares_and_cubes(self):
        for n in range(1, 8):
            for f in bit_tables(n, 6):
                row = signs(n, f)
                self.assertEqual(sum(sign ** 2 for sign in row), 4 ** n)
                self.assertEqual(sum(sign ** 3 for sign in row), 2 ** n * (4 ** n - 2 * broken_bits(n, f)))


class BrokenBitsTest(unittest.TestCase):
    def test_a_plain_count(self):
        for n in range(1, 8):
            for f in bit_tables(n, 6 if n < 6 else 1)[:40]:
                told = plain_broken_bits(n, f) if n < 7 else None
                for _ in range(2):
                    found = broken_bits(n=n, f=f)
                    self.assertIs(type(found), int)
                    self.assertIn(told, (None, found))

    def test_tables_of_seven_bits(self):
        # Each bit that is changed in a table of zeros breaks the pairs with just one or all three of x, y, x + y there.
        f = [0] * 128
        f[77] = 1
        self.assertEqual(broken_bits(7, tuple(f)), 3 * 128 - 6)
        self.assertEqual(broken_bits(7, (1,) * 128), 128 * 128)
        self.assertEqual(plain_broken_bits(7, linear(7, 77)), broken_bits(7, linear(7, 77)))
        f = bit_tables(7, 1)[-1]
        self.assertEqual(broken_bits(7, f), plain_broken_bits(7, f))

    def test_against_broken(self):
        for n in range(1, 6):
            one, two = Group(words(*[2] * n)), Group(cyclic(2))
            self.assertEqual((one, two), (vector_group(2, n), cyclic_group(2)))
            for f in bit_tables(n, 8):
                self.assertEqual(broken_bits(n, f), broken(one, two, f))


class BestLinearTest(unittest.TestCase):
    def test_the_least_of_the_greatest(self):
        ties = 0
        for n in range(1, 8):
            for f in bit_tables(n, 5):
                row = plain_signs(n, f)
                best = [a for a in range(2 ** n) if row[a] == max(row)]
                ties += len(best) > 1
                for _ in range(2):
                    self.assertEqual(best_linear(n=n, f=f), best[0])
        self.assertGreater(ties, 15)

    def test_shown_ones(self):
        self.assertEqual(best_linear(2, (0, 0, 0, 1)), 0)
        self.assertEqual(best_linear(2, (1, 0, 1, 1)), 2)
        self.assertEqual(best_linear(2, (1, 1, 1, 0)), 3)
        # Of equally great signs the one with the least number is told.
        self.assertEqual(signs(3, (0, 0, 1, 0, 1, 1, 0, 1)), (0, 0, 0, 0, 4, -4, 4, 4))
        self.assertEqual(best_linear(3, (0, 0, 1, 0, 1, 1, 0, 1)), 4)
        self.assertEqual(signs(2, (0, 1, 1, 1)), (-2, 2, 2, 2))
        self.assertEqual(best_linear(2, (0, 1, 1, 1)), 1)
        self.assertEqual(signs(2, (1, 0, 0, 1)), (0, 0, 0, -4))
        self.assertEqual(best_linear(2, (1, 0, 0, 1)), 0)
        self.assertEqual(best_linear(1, (1, 1)), 1)
        # Not the greatest square: the sign of linear map 0 is -8 here, all others are 0.
        self.assertEqual(signs(3, (1,) * 8), (-8,) + (0,) * 7)
        self.assertEqual(best_linear(3, (1,) * 8), 1)

    def test_how_far_it_is(self):
        only = 0
        for n in range(1, 8):
            for f in bit_tables(n, 5):
                count, best = broken_bits(n, f), best_linear(n, f)
                unlike = [sum(p != q for p, q in zip(f, linear(n, a))) for a in range(2 ** n)]
                self.assertLessEqual(unlike[best] * 2 ** n, count)
                if 4 * count < 4 ** n:
                    self.assertEqual([a for a in range(2 ** n) if 4 * (2 ** n - unlike[a]) > 3 * 2 ** n], [best])
                    only += 1
        self.assertGreater(only, 20)


class WrongTest(unittest.TestCase):
    def test_numbers_of_bits(self):
        for call in (signs, broken_bits, best_linear):
            for n in NO_COUNTS:
                for f in ((0, 0), (0,) * 256, (0,), None, [0, 1], (2, 2)):
                    for _ in range(2):
                        self.assertIs(raised(InvalidNumber, call, n, f).value, n)

    def test_no_tables_of_bits(self):
        for call in (signs, broken_bits, best_linear):
            for n in range(1, 8):
                for value in no_bit_tables(n, linear(n, 1)):
                    self.assertIs(raised(InvalidMap, call, n=n, f=value).value, value)
                for size in (1, 2, 4, 8, 16, 32, 64, 128, 256, 3, 48):
                    if size != 2 ** n:
                        self.assertEqual(raised(InvalidMap, call, n, (0,) * size).value, (0,) * size)
