import unittest
from fractions import Fraction

from sevenninths.errors import InvalidNumber
from sevenninths.shares import Share
from tests.helper import NO_INTEGERS, drawing, raised


def integers(draw):
    """An integer of few or of many figures, of any sign."""
    size = draw.choice((1, 1, 2, 5, 40, 300))
    return draw.choice((0, 1, -1, draw.randrange(-10 ** size, 10 ** size), draw.randrange(-10 ** size, 10 ** size)))


def pairs(seed, count):
    """Tops and bottoms, many of them with a divisor in common."""
    draw = drawing(seed)
    found = [(0, 1), (0, 7), (1, 1), (-1, 1), (6, 3), (-6, 4), (4, 8), (10 ** 399, 10 ** 200), (5, 10 ** 399)]
    for _ in range(count):
        common = abs(integers(draw)) or 1
        found.append((integers(draw) * common, (abs(integers(draw)) or 1) * common))
    return found


class MadeTest(unittest.TestCase):
    def test_lowest_terms(self):
        for top, bottom in pairs(1, 300):
            told = Fraction(top, bottom)
            for share in (Share(top, bottom), Share.of(top, bottom), Share(bottom=bottom, top=top),
                          Share.of(whole=bottom, part=top), Share(top, bottom)):
                self.assertIs(type(share), Share)
                self.assertEqual((share.top, share.bottom), (told.numerator, told.denominator))
                self.assertGreaterEqual(share.bottom, 1)

    def test_plain_values(self):
        self.assertEqual((Share(6, 4).top, Share(6, 4).bottom), (3, 2))
        self.assertEqual((Share(-6, 4).top, Share(-6, 4).bottom), (-3, 2))
        self.assertEqual((Share(0, 9).top, Share(0, 9).bottom), (0, 1))

    def test_written(self):
        for top, bottom in pairs(2, 200):
            self.assertEqual(Share(top, bottom).written(), str(Fraction(top, bottom)))
        self.assertEqual(Share(2, 9).written(), "2/9")
        self.assertEqual(Share(-4, 6).written(), "-2/3")
        self.assertEqual(Share(-8, 2).written(), "-4")
        self.assertEqual(Share(0, 5).written(), "0")
        self.assertEqual(Share(10 ** 499, 10 ** 498 + 1).written(), f"{10 ** 499}/{10 ** 498 + 1}")

    def test_the_first_that_is_no_integer(self):
        for make in (Share, Share.of):
            for _ in range(2):
                for wrong in NO_INTEGERS + (Share(1, 1),):
                    self.assertIs(raised(InvalidNumber, make, wrong, 1).value, wrong)
                    self.assertIs(raised(InvalidNumber, make, 1, wrong).value, wrong)
                    self.assertIs(raised(InvalidNumber, make, wrong, 0).value, wrong)
                    for second in NO_INTEGERS:
                        self.assertIs(raised(InvalidNumber, make, wrong, second).value, wrong)

    def test_a_bottom_below_one(self):
        for make in (Share, Share.of):
            for bottom in (0, -1, -2, -10 ** 300):
                for top in (0, 1, -1, 10 ** 300):
                    self.assertIs(raised(InvalidNumber, make, top, bottom).value, bottom)


class EqualTest(unittest.TestCase):
    def test_with_shares(self):
        drawn = pairs(3, 60)
        for top, bottom in drawn:
            for other_top, other_bottom in drawn:
                told = top * other_bottom == other_top * bottom
                one, other = Share(top, bottom), Share(other_top, other_bottom)
                self.assertIs(one == other, told)
                self.assertIs(one != other, not told)
        self.assertTrue(Share(1, 2) == Share(50, 100))
        self.assertFalse(Share(1, 2) == Share(1, 3))
        self.assertFalse(Share(1, 2) == Share(3, 2))

    def test_with_integers(self):
        for top, bottom in pairs(4, 200):
            share = Share(top, bottom)
            for number in (top, bottom, top // bottom, 0, 1, -1):
                told = top == number * bottom
                self.assertIs(share == number, told)
                self.assertIs(number == share, told)
                self.assertIs(share != number, not told)
                self.assertIs(number != share, not told)

    def test_with_anything_else(self):
        for share in (Share(0, 1), Share(1, 1), Share(3, 1), Share(1, 2)):
            for other in NO_INTEGERS + (Fraction(1, 2), Fraction(1), (1, 2), "1/2", Share):
                self.assertIs(share == other, False)
                self.assertIs(other == share, False)
                self.assertIs(share != other, True)
                self.assertIs(other != share, True)


class ReckonedTest(unittest.TestCase):
    def check(self, share, told):
        self.assertIs(type(share), Share)
        self.assertEqual((share.top, share.bottom), (told.numerator, told.denominator))

    def test_two_shares(self):
        draw = drawing(5)
        drawn = pairs(6, 60)
        for top, bottom in drawn:
            for other_top, other_bottom in draw.sample(drawn, 12):
                one, other = Share(top, bottom), Share(other_top, other_bottom)
                first, second = Fraction(top, bottom), Fraction(other_top, other_bottom)
                for _ in range(2):
                    self.check(one + other, first + second)
                    self.check(one - other, first - second)
                    self.check(one * other, first * second)
                    self.assertIs(one.below(other), first < second)
                self.assertIs(one.below(one), False)
                self.check(one, first)
                self.check(other, second)

    def test_a_share_and_an_integer(self):
        draw = drawing(7)
        for top, bottom in pairs(8, 200):
            share, fraction = Share(top, bottom), Fraction(top, bottom)
            for number in (0, 1, -1, 2, integers(draw), top // bottom, top // bottom + 1):
                self.check(share + number, fraction + number)
                self.check(number + share, number + fraction)
                self.check(share - number, fraction - number)
                self.check(number - share, number - fraction)
                self.check(share * number, fraction * number)
                self.check(number * share, number * fraction)
                self.assertIs(share.below(number), fraction < number)
                self.check(share, fraction)

    def test_below(self):
        self.assertIs(Share(1, 3).below(Share(1, 2)), True)
        self.assertIs(Share(1, 2).below(other=Share(1, 3)), False)
        self.assertIs(Share(-1, 2).below(Share(-1, 3)), True)
        self.assertIs(Share(4, 2).below(2), False)
        self.assertIs(Share(3, 2).below(2), True)

    def test_power(self):
        for top, bottom in pairs(9, 40):
            share = Share(top, bottom)
            for k in (0, 1, 2, 3, 7):
                self.check(share.power(k), Fraction(top, bottom) ** k)
            self.check(share, Fraction(top, bottom))
        for top, bottom in ((2, 3), (-2, 3), (0, 1), (1, 1), (-7, 10)):
            for k in range(101):
                self.check(Share(top, bottom).power(k=k), Fraction(top, bottom) ** k)
        self.check(Share(10 ** 400 - 1, 10 ** 399).power(100), Fraction(10 ** 400 - 1, 10 ** 399) ** 100)

    def test_power_with_other_values(self):
        for share in (Share(0, 1), Share(1, 1), Share(-2, 3)):
            for _ in range(2):
                for k in NO_INTEGERS + (-1, -2, 101, 102, 10 ** 30, -10 ** 30, Share(2, 1)):
                    self.assertIs(raised(InvalidNumber, share.power, k).value, k)

    def test_neither_shares_nor_integers_are_reckoned_with(self):
        for other in (True, None, "1", 1.0):
            for reckon in (lambda x, y: x + y, lambda x, y: x - y, lambda x, y: x * y):
                self.assertRaises(TypeError, reckon, Share(1, 2), other)
                self.assertRaises(TypeError, reckon, other, Share(1, 2))
