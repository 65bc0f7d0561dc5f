import itertools
import math
import time
import unittest
from fractions import Fraction

from sevenninths.boxes import Box, Corrector, Tester
from sevenninths.errors import InvalidMap, InvalidNumber, TooMany, Undefined
from sevenninths.groups import Group
from sevenninths.maps import broken, votes
from sevenninths.ninths import close_hom, is_sure
from sevenninths.sampling import passing_share, right_share, samples_for, silent_share, wrong_share
from sevenninths.shares import Share
from tests.helper import (NO_INTEGERS, cyclic, drawing, neutral_of, permutations, raised, shuffled, turns, words)
from tests.test_homs import larger_pairs, no_maps
from tests.test_maps import changed, drawn_maps

CALLS = (right_share, wrong_share, silent_share)
ODD = range(1, 16, 2)


def fraction(share):
    """The share as Python's own fraction, which must be the same in lowest terms."""
    assert share.bottom > 0 and math.gcd(share.top, share.bottom) == 1
    return Fraction(share.top, share.bottom)


def share_of(told):
    """Python's own fraction as a Share."""
    return Share(told.numerator, told.denominator)


def majority(part, whole, k):
    """The fraction of the rows of k that have more than half from the part."""
    rows = sum(math.comb(k, i) * part ** i * (whole - part) ** (k - i) for i in range(k + 1) if 2 * i > k)
    return Fraction(rows, whole ** k)


def small_maps():
    """Maps of small groups with a homomorphism near, and the homomorphism."""
    draw = drawing(111)
    found = []
    for one, other in ((cyclic(5), cyclic(5)), (cyclic(6), cyclic(4)), (permutations(3), permutations(3)), (cyclic(1), cyclic(3)),
                       (cyclic(9), cyclic(3)), (words(2, 2, 2), words(2, 2)), (shuffled(turns(4), draw), cyclic(2))):
        first, second = Group(one), Group(other)
        for w in range((first.size + 3) // 4):
            for _ in range(3):
                hom = (neutral_of(other),) * first.size
                if one == other:
                    hom = tuple(range(first.size))
                f = changed(hom, second.size, w, draw)
                assert close_hom(first, second, f) == hom
                found.append((first, second, f, hom))
    return found


class SharesTest(unittest.TestCase):
    def check(self, told, one, other, f, x, k):
        for call, share in zip(CALLS, told):
            for _ in range(2):
                found = call(one, other, f, x, k)
                self.assertIs(type(found), Share)
                self.assertEqual(fraction(found), share)

    def test_a_plain_count_over_all_rows(self):
        for one, other, f, hom in small_maps():
            corrector = Corrector(one, other, Box(f))
            for x in {0, 1, one.size // 2, one.size - 1} - {one.size}:
                for k in (1, 3, 5):
                    if one.size ** k > 800:
                        continue
                    answers = [corrector.answer(x, row) for row in itertools.product(range(one.size), repeat=k)]
                    right, silent = answers.count(hom[x]), answers.count(None)
                    rows = len(answers)
                    told = [Fraction(many, rows) for many in (right, rows - right - silent, silent)]
                    self.check(told, one, other, f, x, k)

    def test_all_k_by_the_votes(self):
        met = set()
        for one, other, f, hom in small_maps():
            for x in range(one.size):
                row = votes(one, other, f, x)
                for k in ODD:
                    parts = [majority(count, one.size, k) for count in row]
                    right = parts[hom[x]]
                    wrong = sum(parts) - right
                    self.check([right, wrong, 1 - right - wrong], one, other, f, x, k)
                    met.add((wrong > 0, right + wrong < 1))
        self.assertEqual(met, {(False, False), (True, False), (True, True)})

    def test_what_the_document_says_of_them(self):
        draw = drawing(112)
        for one, other in larger_pairs():
            for f in drawn_maps(one, other, draw, 2):
                if close_hom(one, other, f) is None:
                    continue
                x = draw.randrange(one.size)
                before = Share(1, 2)
                for k in ODD:
                    right, wrong, silent = [call(one, other, f, x, k) for call in CALLS]
                    self.assertEqual(right + wrong + silent, 1)
                    self.assertFalse(right.below(before))
                    self.assertTrue(Share(1, 2).below(right))
                    self.assertEqual((wrong.below(0), silent.below(0)), (False, False))
                    if is_sure(one, other, f):
                        self.assertTrue(Share(2, 3).below(right))
                    before = right

    def test_shown_ones(self):
        one, two = Group(cyclic(12)), Group(cyclic(4))
        f = (0, 1, 2, 3, 0, 1, 3, 3, 0, 1, 2, 3)
        self.assertEqual(right_share(one=one, other=two, f=f, x=6, k=1), Share(5, 6))
        self.assertEqual(wrong_share(one=one, other=two, f=f, x=6, k=1), Share(1, 6))
        self.assertEqual(silent_share(one=one, other=two, f=f, x=6, k=1), 0)
        self.assertEqual(right_share(one, two, f, 6, 3), Share(25, 27))
        self.assertEqual(wrong_share(one, two, f, 6, 3).written(), "17/432")
        self.assertEqual(silent_share(one, two, f, 6, 3).written(), "5/144")
        # For a homomorphism all samples are right; in a group of one element, too.
        for hom, x in ((tuple(y % 4 for y in range(12)), 5), ((0,) * 12, 11)):
            for k in ODD:
                self.assertEqual([call(one, two, hom, x, k) for call in CALLS], [1, 0, 0])
        for k in ODD:
            self.assertEqual([call(Group(cyclic(1)), two, (0,), 0, k) for call in CALLS], [1, 0, 0])

    def test_large_groups(self):
        draw = drawing(113)
        one = Group(shuffled(words(2, 2, 12), draw))
        f = changed(tuple(range(48)), 48, 11, draw)
        for x in (0, 13, 47):
            right, wrong, silent = [call(one, one, f, x, 15) for call in CALLS]
            self.assertEqual(fraction(right), majority(votes(one, one, f, x)[x], 48, 15))
            self.assertEqual(right + wrong + silent, 1)


class WrongTest(unittest.TestCase):
    def test_errors_in_their_order(self):
        one, two = Group(cyclic(12)), Group(cyclic(4))
        near, far = (0, 1, 2, 3, 0, 1, 3, 3, 0, 1, 2, 3), (1,) * 12
        quarter = (0,) * 9 + (1,) * 3
        no_places = NO_INTEGERS + (-1, 12, -12, 10 ** 29, Share(0, 1))
        no_counts = NO_INTEGERS + (0, -1, 2, 4, 14, 16, 17, 10 ** 29, -3, Share(1, 1))
        for call in CALLS:
            for value in no_maps(one, two, near):
                for x, k in ((0, 1), (12, 2), (None, None)):
                    self.assertIs(raised(InvalidMap, call, one, two, value, x, k).value, value)
            for f in (far, quarter):
                for x, k in ((0, 1), (12, 1), (0, 2), (None, None), (True, True)):
                    self.assertEqual(raised(Undefined, call, one, two, f, x, k).what, "hom")
            for x in no_places:
                for k in (1, 2, None, 17, True):
                    self.assertIs(raised(InvalidNumber, call, one, two, near, x, k).value, x)
            for k in no_counts:
                for x in (0, 11):
                    for _ in range(2):
                        self.assertIs(raised(InvalidNumber, call, one, two, f=near, x=x, k=k).value, k)

    def test_errors_of_passing_share(self):
        for one, other in larger_pairs():
            f = (neutral_of(other.table),) * one.size
            for value in no_maps(one, other, f):
                for k in (0, 5, -1, None, 101):
                    self.assertIs(raised(InvalidMap, passing_share, one, other, value, k).value, value)
            for g in (f, f[1:] + (other.size - 1,)):
                for k in NO_INTEGERS + (-1, 101, 102, 10 ** 29, -100, Share(1, 1)):
                    for _ in range(2):
                        self.assertIs(raised(InvalidNumber, passing_share, one, other, g, k).value, k)


class PassingTest(unittest.TestCase):
    def test_a_plain_count_over_all_rows(self):
        for one, other, f, _ in small_maps():
            tester = Tester(one, other, Box(f))
            pairs = list(itertools.product(range(one.size), repeat=2))
            for k in (0, 1, 2):
                if len(pairs) ** k <= 1500:
                    passed = [tester.test(row) == 0 for row in itertools.product(pairs, repeat=k)]
                    for _ in range(2):
                        found = passing_share(one=one, other=other, f=f, k=k)
                        self.assertEqual(fraction(found), Fraction(sum(passed), len(passed)))
                        self.assertIs(type(found), Share)

    def test_none_to_a_hundred_pairs(self):
        draw = drawing(114)
        for one, other in larger_pairs():
            for f in drawn_maps(one, other, draw, 1):
                part = 1 - Fraction(broken(one, other, f), one.size ** 2)
                for k in (0, 1, 2, 7, 50, 99, 100):
                    self.assertEqual(fraction(passing_share(one, other, f, k)), part ** k)
        three = Group(cyclic(3))
        for k in (0, 1, 100):
            self.assertEqual(passing_share(three, three, (1, 1, 1), k), 1 if k == 0 else 0)
            self.assertEqual(passing_share(three, three, (0, 2, 1), k), 1)


class SamplesForTest(unittest.TestCase):
    def test_at_below_and_above_the_share_of_each_odd_number(self):
        little = Fraction(1, 10 ** 300)
        before = None
        for k in range(1, 100, 2):
            share = majority(2, 3, k)
            if k <= 7:
                marks = list(itertools.product((1, 1, 0), repeat=k))
                self.assertEqual(share, Fraction(sum(2 * sum(row) > k for row in marks), len(marks)))
            self.assertEqual(self.told(share), k)
            self.assertEqual(self.told(share - little), k)
            if before is not None:
                self.assertGreater(share, before)
                self.assertEqual(self.told(before + little), k)
            before = share
        for share in (before + little, before + Fraction(1, 10 ** 9), Fraction(9999, 10000), 1 - little):
            for _ in range(2):
                error = raised(TooMany, samples_for, share_of(share))
                self.assertEqual(error.what, "samples")

    def told(self, share):
        given = share_of(share)
        found = samples_for(share=given)
        self.assertEqual(samples_for(given), found)
        return found

    def test_the_edges_of_each_odd_number(self):
        # Of 3 ** k rows of marks so many have a right majority; so these shares, and one row of more marks beyond.
        shares = [majority(2, 3, k) for k in range(1, 100, 2)]
        for k, share, following in zip(range(1, 100, 2), shares, shares[1:] + [None]):
            for step in (Fraction(1, 3 ** k), Fraction(1, 3 ** (k + 2)), Fraction(1, 10 ** 350)):
                self.assertEqual(self.told(share), k)
                self.assertLessEqual(self.told(share - step), k)
                if following is None:
                    self.assertEqual(raised(TooMany, samples_for, share_of(share + step)).what, "samples")
                else:
                    self.assertGreaterEqual(self.told(min(share + step, following)), k + 2)
            self.assertEqual(self.told(share - Fraction(1, 10 ** 350)), k)
            if following is not None:
                self.assertEqual(self.told(share + Fraction(1, 10 ** 350)), k + 2)
                self.assertEqual(self.told((share + following) / 2), k + 2)
        two_thirds = Fraction(2, 3)
        for share in (two_thirds, two_thirds - Fraction(1, 10 ** 350), Fraction(1, 2), Fraction(0), Fraction(-7, 3)):
            self.assertEqual(self.told(share), 1)

    def test_many_calls_are_quick(self):
        start = time.process_time()
        for _ in range(1000):
            self.assertEqual(samples_for(Share(9995, 10000)), 93)
            raised(TooMany, samples_for, Share(9999, 10000))
        # Shares of all sizes, and those of which a call has most to reckon.
        found = [self.told(Fraction(top, 10007)) for top in range(0, 9998, 3)]
        self.assertEqual((found, found[0], found[-1] > 80), (sorted(found), 1, True))
        longest = Share(9995 * 10 ** 395 + 1, 10 ** 399)
        for _ in range(1000):
            self.assertEqual(samples_for(longest), 93)
            raised(TooMany, samples_for, Share(10 ** 399 - 1, 10 ** 399))
        self.assertLess(time.process_time() - start, 3)

    def test_at_0_and_below(self):
        for share in (Share(0, 1), Share(0, 5), Share(-1, 3), Share(-10 ** 399, 1), Share(-1, 10 ** 399), Share(1, 2)):
            self.assertEqual(samples_for(share), 1)

    def test_shown_ones(self):
        told = {(2, 3): 1, (67, 100): 3, (20, 27): 3, (3, 4): 5, (8, 10): 7, (9, 10): 15, (95, 100): 23, (99, 100): 47}
        for (top, bottom), k in told.items():
            self.assertEqual(samples_for(Share(top, bottom)), k)
        self.assertEqual(samples_for(Share(2 * 10 ** 398 + 1, 3 * 10 ** 398)), 3)
        self.assertEqual(samples_for(Share(2 * 10 ** 398 - 1, 3 * 10 ** 398)), 1)
