import itertools
import unittest

from sevenninths.errors import InvalidMap, InvalidNumber, InvalidSubset
from sevenninths.nearbits import near_certificate, near_certificate_holds, near_linear, weight
from sevenninths.shares import Share
from tests.helper import NO_INTEGERS, NO_SEQUENCES, drawing, raised
from tests.test_certificates import Flatterer, kinds, lookalikes, replaced
from tests.test_signs import FIGURES, NO_COUNTS, bit_tables, bits_of, linear, no_bit_tables, plain_signs


def plain_weight(n, row, beginning):
    """The squares of the signs of those numbers whose bits begin so."""
    return sum(sign ** 2 for a, sign in enumerate(row) if bits_of(n, a)[:len(beginning)] == beginning)


def plain_certificate(n, row, t):
    levels = [(((), 4 ** n),)]
    while len(levels) <= n:
        level = [(beginning + (bit,), plain_weight(n, row, beginning + (bit,)))
                 for beginning, heavy in levels[-1] for bit in (0, 1) if heavy >= t ** 2]
        levels.append(tuple(sorted(level)))
    return tuple(levels)


def cases(count):
    """Tables of bits with the row of their signs."""
    return [(n, f, plain_signs(n, f)) for n in range(1, 8) for f in bit_tables(n, count)[-9:]]


def bounds(n):
    """Numbers from 1 to 2 to the power n, both among them."""
    size = 2 ** n
    return sorted({1, 2, size // 4 or 1, size // 2, size // 2 + 1, size - 1, size})


def variants(value):
    """All values that are one part of value changed, left out, doubled, exchanged or of another kind."""
    if not isinstance(value, tuple):
        return lookalikes(value) + [value + 1, value - 1, -value - 1]
    found = [list(value), value + (0,), value + ((),), (value,), None, 0, "", Flatterer(), frozenset()]
    for place, part in enumerate(value):
        found += [value[:place] + value[place + 1:], value[:place] + (part,) + value[place:]]
        found += [value[:place] + value[place + 1:place + 2] + (part,) + value[place + 2:]]
        found += [replaced(value, place, other) for other in variants(part)]
    return found


class WeightTest(unittest.TestCase):
    def test_all_beginnings(self):
        for n, f, row in cases(2):
            for count in range(n + 1):
                beginnings = list(itertools.product((0, 1), repeat=count))
                for beginning in beginnings[:8] + beginnings[-8:]:
                    told = plain_weight(n, row, beginning)
                    for _ in range(2):
                        self.assertEqual(weight(n=n, f=f, beginning=beginning), told)
            self.assertEqual(weight(n, f, ()), 4 ** n)
            self.assertIs(type(weight(n, f, (1,))), int)

    def test_two_longer_ones_make_a_beginning(self):
        for n, f, row in cases(2):
            for a, sign in enumerate(row):
                whole = bits_of(n, a)
                self.assertEqual(weight(n, f, whole), sign ** 2)
                shorter = whole[:a % n]
                self.assertEqual(weight(n, f, shorter), weight(n, f, shorter + (0,)) + weight(n, f, shorter + (1,)))

    def test_shown_ones(self):
        f = (0, 0, 0, 0, 1, 1, 1, 0)
        self.assertEqual([weight(3, f, beginning) for beginning in ((), (0,), (1,), (1, 0), (1, 0, 0), (0, 1, 1))],
                         [64, 16, 48, 40, 36, 4])

    def test_no_beginnings(self):
        for n in range(1, 8):
            f = linear(n, 1)
            wrong = [[], [0], (2,), (-1,), (0,) * (n + 1), (1,) * 8, (0,) * 100, ((0,),), ((),), (10 ** 29,), [0] * n]
            wrong += [row for value in NO_INTEGERS + (Share(0, 1), Share(1, 1))
                      for row in ((value,), (0,) * (n - 1) + (value,))]
            for value in wrong + list(NO_SEQUENCES) + [0, 1, "0", {}]:
                for _ in range(2):
                    self.assertIs(raised(InvalidSubset, weight, n, f, value).value, value)


class NearLinearTest(unittest.TestCase):
    def test_against_all_signs(self):
        for n, f, row in cases(3):
            for t in bounds(n):
                told = tuple(a for a in range(2 ** n) if row[a] >= t)
                for _ in range(2):
                    self.assertEqual(near_linear(n=n, f=f, t=t), told)
                self.assertLessEqual(len(told) * t * t, 4 ** n)

    def test_shown_ones(self):
        f = (0, 0, 0, 0, 1, 1, 1, 0)
        self.assertEqual(near_linear(3, f, 1), (0, 3, 4, 5, 6))
        self.assertEqual(near_linear(3, f, 2), (0, 3, 4, 5, 6))
        self.assertEqual([near_linear(3, f, t) for t in (3, 6, 7, 8)], [(4,), (4,), (), ()])
        self.assertEqual(near_linear(1, (1, 1), 1), ())
        self.assertEqual([near_linear(n, linear(n, 1), 2 ** n) for n in (1, 4, 7)], [(1,), (1,), (1,)])


class CertificateTest(unittest.TestCase):
    def test_what_is_made(self):
        for n, f, row in cases(3):
            for t in bounds(n):
                told = plain_certificate(n, row, t)
                for _ in range(2):
                    found = near_certificate(n=n, f=f, t=t)
                    self.assertEqual(found, told)
                    self.assertLessEqual(kinds(found), {tuple, int})
                self.assertIs(near_certificate_holds(n=n, f=f, t=t, certificate=told), True)

    def test_shown_ones(self):
        f = (0, 0, 0, 1)
        self.assertEqual(near_certificate(2, f, 1), (
            (((), 16),), (((0,), 8), ((1,), 8)), (((0, 0), 4), ((0, 1), 4), ((1, 0), 4), ((1, 1), 4))))
        self.assertEqual(near_certificate(2, f, 3), ((((), 16),), (((0,), 8), ((1,), 8)), ()))
        self.assertEqual(near_certificate(2, f, 4), ((((), 16),), (((0,), 8), ((1,), 8)), ()))
        # A weight of t t itself leads on.
        self.assertEqual(near_certificate(2, (0, 1, 0, 1), 4), (
            (((), 16),), (((0,), 16), ((1,), 0)), (((0, 0), 0), ((0, 1), 16))))
        self.assertEqual(near_certificate(1, (1, 1), 2), ((((), 4),), (((0,), 4), ((1,), 0))))

    def test_what_the_document_says_of_it(self):
        for n, f, row in cases(4):
            for t in bounds(n):
                levels = near_certificate(n, f, t)
                self.assertEqual(len(levels), n + 1)
                for level in levels:
                    self.assertEqual(list(level), sorted(level))
                    self.assertLessEqual(sum(heavy >= t * t for _, heavy in level) * t * t, 4 ** n)
                last = [beginning for beginning, _ in levels[-1]]
                for a, sign in enumerate(row):
                    if abs(sign) >= t:
                        self.assertIn(bits_of(n, a), last)

    def test_one_part_changed(self):
        met = 0
        for n, t in ((1, 1), (1, 2), (2, 1), (2, 3), (3, 2), (3, 4)):
            for f in bit_tables(n, 1)[-3:]:
                certificate = near_certificate(n, f, t)
                for wrong in variants(certificate):
                    if wrong != certificate or kinds(wrong) != kinds(certificate):
                        self.assertIs(near_certificate_holds(n, f, t, wrong), False, wrong)
                        met += 1
        self.assertGreater(met, 2000)

    def test_one_part_changed_at_seven_bits(self):
        draw = drawing(131)
        f = bit_tables(7, 1)[-1]
        certificate = near_certificate(7, f, 5)
        wrongs = [wrong for level in (0, 3, 7) for wrong in
                  [replaced(certificate, level, other) for other in draw.sample(variants(certificate[level]), 18)]]
        for wrong in wrongs:
            self.assertIs(near_certificate_holds(7, f, 5, wrong), wrong == certificate and kinds(wrong) == {tuple, int})
        self.assertIs(near_certificate_holds(7, f, 5, certificate), True)
        self.assertIs(near_certificate_holds(7, f, 5, certificate[:-1] + ((),)), False)

    def test_any_value_at_all(self):
        deep = ()
        for _ in range(5000):
            deep = (deep,)
        for n in (1, 3, 7):
            f = linear(n, 1)
            for value in NO_SEQUENCES + NO_INTEGERS + (deep, (deep,) * (n + 1), ((),) * (n + 1), Flatterer(), "certificate",
                                                       (None,) * (n + 1), (0,) * (n + 1), ([],) * (n + 1)):
                self.assertIs(near_certificate_holds(n, f, 2, value), False)

    def test_certificates_of_other_tables_and_bounds(self):
        for n, f, row in cases(1):
            for g in bit_tables(n, 1)[:4]:
                for t in bounds(n):
                    for s in (1, t, 2 ** n):
                        told = plain_certificate(n, plain_signs(n, g), s)
                        same = told == plain_certificate(n, row, t)
                        self.assertIs(near_certificate_holds(n, f, t, told), same)


class WrongTest(unittest.TestCase):
    def calls(self, n, f, last):
        """Each function with its arguments, the last of those that can be wrong being last."""
        return ((weight, (n, f, last)), (near_linear, (n, f, last)), (near_certificate, (n, f, last)),
                (near_certificate_holds, (n, f, last, ())), (near_certificate_holds, (n, f, last, None)))

    def test_numbers_of_bits(self):
        for n in NO_COUNTS:
            for f in ((0, 0), (0,) * 256, None, [0, 1], (2, 2)):
                for last in (1, 0, (), (2,), None):
                    for call, given in self.calls(n, f, last):
                        self.assertIs(raised(InvalidNumber, call, *given).value, n)

    def test_no_tables_of_bits(self):
        for n in (1, 2, 4, 7):
            for value in no_bit_tables(n, linear(n, 1)):
                for last in (1, 0, (), (2,), None):
                    for call, given in self.calls(n, value, last):
                        self.assertIs(raised(InvalidMap, call, *given).value, value)

    def test_no_bounds(self):
        for n in range(1, 8):
            f = linear(n, 1)
            for t in NO_INTEGERS + (0, -1, 2 ** n + 1, -2 ** n, 129, FIGURES, Share(1, 1)):
                for call, given in self.calls(n, f, t)[1:]:
                    for _ in range(2):
                        self.assertIs(raised(InvalidNumber, call, *given).value, t)
            for t in (1, 2 ** n):
                self.assertIs(near_certificate_holds(n, f, t, near_certificate(n, f, t)), True)
