import itertools
import unittest

from sevenninths.errors import InvalidMap, InvalidNumber, TooMany, Undefined
from sevenninths.groups import Group
from sevenninths.homs import agreement, all_homs, greatest_agreement, is_hom
from sevenninths.maps import broken, voted, votes, wrong_places
from sevenninths.ninths import border_map, close_hom, hom_of, is_sure, most_near
from sevenninths.shares import Share
from tests.helper import (NO_INTEGERS, both, cyclic, drawing, neutral_of, permutations, raised, shuffled, turns, words)
from tests.test_homs import larger_pairs, no_maps
from tests.test_maps import FIGURES, all_small_maps, changed, many_maps, plain_broken

# Maps from 24 to 12 elements with one pair less than two ninths of 576 broken, with just so many, with one more.
JUST_BELOW = (0, 4, 8, 0, 4, 8, 6, 4, 8, 0, 4, 8, 0, 4, 8, 0, 4, 8, 0, 5, 8, 0, 4, 8)
JUST_AT = (0, 1, 2, 3, 7, 5, 6, 7, 8, 9, 10, 11, 0, 1, 2, 3, 4, 5, 6, 9, 8, 9, 10, 11)
JUST_ABOVE = (0, 1, 6, 9, 8, 7, 6, 5, 4, 3, 2, 1, 0, 11, 10, 9, 8, 7, 6, 5, 4, 3, 2, 1)


def plain_close(one, other, f):
    """The homomorphisms that differ from f at fewer than a quarter of the places."""
    return [hom for hom in all_homs(one, other) if 4 * sum(a != b for a, b in zip(f, hom)) < one.size]


def judged_maps():
    """Maps of many kinds, and homomorphisms changed at about a quarter of the places."""
    draw = drawing(81)
    found = many_maps(82, 2)
    for one, other in larger_pairs():
        if other.size > 1:
            for w in range(one.size // 4 + 2):
                found.append((one, other, changed(draw.choice(all_homs(one, other)), other.size, min(w, one.size), draw)))
    return found


class SureTest(unittest.TestCase):
    def test_is_sure_and_hom_of(self):
        met = {True: 0, False: 0}
        for one, other, f in judged_maps():
            n = one.size
            told = 9 * plain_broken(one.table, other.table, f) < 2 * n * n
            met[told] += 1
            for _ in range(2):
                self.assertIs(is_sure(one, other, f=f), told)
                if told:
                    nearest = [hom for hom in all_homs(one, other) if 10 * agreement(f, hom) > 9 * n]
                    self.assertEqual([hom_of(one, other, f=f)], nearest)
                else:
                    self.assertEqual(raised(Undefined, hom_of, one, other, f).what, "hom")
        self.assertGreater(min(met.values()), 50)

    def test_just_below_at_and_above_two_ninths(self):
        one, two = Group(cyclic(24)), Group(cyclic(12))
        for f, count in ((JUST_BELOW, 127), (JUST_AT, 128), (JUST_ABOVE, 129)):
            self.assertEqual(plain_broken(one.table, two.table, f), count)
            self.assertEqual(broken(one, two, f), count)
            self.assertIs(is_sure(one, two, f), count < 128)
        right = JUST_BELOW[:6] + (0,) + JUST_BELOW[7:19] + (4,) + JUST_BELOW[20:]
        self.assertEqual(hom_of(one=one, other=two, f=JUST_BELOW), right)
        for f in (JUST_AT, JUST_ABOVE):
            self.assertEqual(raised(Undefined, hom_of, one, two, f).what, "hom")
            # They differ from a homomorphism at fewer than a quarter of the places all the same.
            self.assertEqual([close_hom(one, two, f)], plain_close(one, two, f))
        six = Group(cyclic(6))
        for f, count in (((0, 0, 3, 3, 3, 0), 8), ((0, 0, 2, 2, 4, 4), 9), ((0, 0, 0, 0, 0, 3), 12)):
            self.assertEqual(broken(six, six, f), count)
            self.assertIs(is_sure(six, six, f), False)

    def test_what_the_document_says_of_sure_maps(self):
        for one, other, f in judged_maps():
            if is_sure(one, other, f):
                n, told = one.size, hom_of(one, other, f)
                self.assertTrue(is_hom(one, other, told))
                self.assertEqual(voted(one, other, f), told)
                self.assertEqual(close_hom(one, other, f), told)
                self.assertTrue(all(3 * votes(one, other, f, x)[told[x]] > 2 * n for x in range(n)))
                for hom in all_homs(one, other):
                    if hom != told:
                        self.assertLess(10 * agreement(f, hom), 6 * n)

    def test_groups_of_one_element(self):
        for other in (cyclic(1), cyclic(3), shuffled(permutations(3), drawing(83))):
            one, second = Group(cyclic(1)), Group(other)
            for h in range(len(other)):
                told = h == neutral_of(other)
                self.assertIs(is_sure(one, second, (h,)), told)
                self.assertEqual(close_hom(one, second, (h,)), (h,) if told else None)
                if told:
                    self.assertEqual(hom_of(one, second, (h,)), (h,))
                else:
                    self.assertEqual(raised(Undefined, hom_of, one, second, (h,)).what, "hom")
        for n in (2, 5, 48):
            f = (0,) * n
            self.assertEqual((hom_of(Group(cyclic(n)), Group(cyclic(1)), f), close_hom(Group(cyclic(n)), Group(cyclic(1)), f)),
                             (f, f))


class CloseTest(unittest.TestCase):
    def test_against_all_homomorphisms(self):
        met = {True: 0, False: 0}
        for one, other, f in judged_maps():
            told = plain_close(one, other, f)
            self.assertLessEqual(len(told), 1)
            for _ in range(2):
                found = close_hom(one, other, f=f)
                self.assertEqual([] if found is None else [found], told)
            met[found is None] += 1
        self.assertGreater(min(met.values()), 100)

    def test_what_the_document_says_of_its_votes(self):
        for one, other, f in judged_maps():
            n, told = one.size, close_hom(one, other, f)
            if told is not None:
                self.assertEqual(voted(one, other, f), told)
                w = len(wrong_places(f, told))
                for x in range(n):
                    right = votes(one, other, f, x)[told[x]]
                    self.assertLessEqual(n - right, 2 * w)
                    self.assertGreater(2 * right, n)

    def test_fewer_than_a_quarter_a_quarter_and_more(self):
        draw = drawing(84)
        for one, other in ((cyclic(12), cyclic(12)), (words(2, 2, 2), words(2, 2)), (permutations(4), permutations(4)),
                           (cyclic(4), cyclic(4)), (cyclic(7), cyclic(7)), (turns(24), words(2, 2))):
            first, second = Group(one), Group(other)
            n = first.size
            for hom in draw.choices(all_homs(first, second), k=8):
                for w in range(n // 4 + 3):
                    f = changed(hom, second.size, w, draw)
                    if 4 * w < n:
                        self.assertEqual(close_hom(first, second, f), hom)
                    else:
                        self.assertNotEqual(close_hom(first, second, f), hom)

    def test_at_a_quarter_there_are_several(self):
        one, two = Group(words(2, 2)), Group(cyclic(2))
        self.assertIsNone(close_hom(one, two, (0, 0, 0, 1)))
        self.assertEqual(sum(agreement((0, 0, 0, 1), hom) == 3 for hom in all_homs(one, two)), 3)
        eight = Group(words(2, 2, 2))
        f = (0, 0, 0, 0, 0, 0, 1, 1)
        self.assertEqual(sum(agreement(f, hom) == 6 for hom in all_homs(eight, two)), 3)
        self.assertIsNone(close_hom(eight, two, f))
        self.assertEqual(close_hom(eight, two, (0, 0, 0, 0, 0, 0, 0, 1)), (0,) * 8)
        self.assertEqual(close_hom(one=one, other=two, f=(0, 1, 1, 0)), (0, 1, 1, 0))

    def test_votes_that_make_a_homomorphism_that_is_far(self):
        # The votes of a map that is wrong everywhere may still make a homomorphism.
        three = Group(cyclic(3))
        self.assertEqual(voted(three, three, (1, 1, 1)), (0, 0, 0))
        self.assertIsNone(close_hom(three, three, (1, 1, 1)))

    def test_large_groups_with_many_homomorphisms(self):
        draw = drawing(85)
        many = words(2, 2, 2, 2, 3)
        for one, other in ((many, many), (shuffled(many, draw), shuffled(words(2, 2, 12), draw)),
                           (both(permutations(4), cyclic(2)), both(permutations(4), cyclic(2)))):
            first, second = Group(one), Group(other)
            self.assertEqual(raised(TooMany, all_homs, first, second).what, "rows")
            hom = (neutral_of(other),) * 48
            if one == other:
                hom = tuple(range(48))
            for w in (0, 1, 2, 3, 4, 11, 12, 13):
                f = changed(hom, 48, w, draw)
                self.assertEqual(close_hom(first, second, f), hom if w < 12 else None)
                self.assertIs(is_sure(first, second, f), 9 * plain_broken(one, other, f) < 2 * 48 * 48)
                if w < 4:
                    self.assertEqual(hom_of(first, second, f), hom)


class BorderTest(unittest.TestCase):
    def test_the_triple(self):
        for j, m in ((1, 3), (2, 9)):
            for _ in range(2):
                triple = border_map(j=j)
                self.assertIs(type(triple), tuple)
                one, other, f = triple
                self.assertEqual((one, other), (Group(cyclic(3 * m)), Group(cyclic(m))))
                told = {(3 * k + r) % (3 * m): k for k in range(m) for r in (-1, 0, 1)}
                self.assertEqual(f, tuple(told[x] for x in range(3 * m)))
                self.assertIs(type(f), tuple)
                self.assertEqual(9 * broken(one, other, f), 2 * (3 * m) ** 2)
                self.assertIs(is_sure(one, other, f), False)
                self.assertEqual(raised(Undefined, hom_of, one, other, f).what, "hom")
                self.assertIsNone(close_hom(one, other, f))
                self.assertEqual({agreement(f, hom) for hom in all_homs(one, other)}, {3})
        self.assertEqual(border_map(1)[2], (0, 0, 1, 1, 1, 2, 2, 2, 0))

    def test_other_values(self):
        for j in NO_INTEGERS + (0, 3, -1, -2, 4, 9, FIGURES, Share(1, 1), Share(2, 1)):
            for _ in range(2):
                self.assertIs(raised(InvalidNumber, border_map, j).value, j)


class MostNearTest(unittest.TestCase):
    def fits(self, m, alike, places, size):
        return m * (places ** 2 - alike * size) <= (places - alike) * size

    def test_small_numbers(self):
        for size in range(1, 14):
            for alike, places in itertools.product(range(size + 1), repeat=2):
                if places * places <= alike * size:
                    self.assertEqual(raised(Undefined, most_near, alike, places, size).what, "bound")
                    continue
                told = max(m for m in range(1, size * size + 2) if self.fits(m, alike, places, size))
                for _ in range(2):
                    self.assertEqual(most_near(alike=alike, places=places, size=size), told)

    def test_at_the_border(self):
        self.assertEqual(raised(Undefined, most_near, 3, 6, 12).what, "bound")
        self.assertEqual(most_near(3, 7, 12), 3)
        self.assertEqual(most_near(2, 6, 12), 4)
        self.assertEqual(most_near(0, 1, 48), 48)
        self.assertEqual(most_near(24, 36, 48), 4)
        self.assertEqual(most_near(24, 34, 48), 120)
        self.assertEqual(most_near(0, 1, 1), 1)
        for size in (1, 5, 48, FIGURES):
            self.assertEqual(most_near(0, size, size), 1)
            self.assertEqual(most_near(size - 1, size, size), 1)
            for alike, places in ((0, 0), (size, size), (size, 0), (1, 0)):
                self.assertEqual(raised(Undefined, most_near, alike, places, size).what, "bound")

    def test_large_numbers(self):
        half = 5 * 10 ** 14
        size = half * half
        self.assertEqual(raised(Undefined, most_near, 1, half, size).what, "bound")
        self.assertEqual(raised(Undefined, most_near, 10 ** 14, half * 10 ** 7, size).what, "bound")
        for alike, places in ((1, half + 1), (10 ** 14, half * 10 ** 7 + 1), (0, 1), (7, size), (size - 1, size)):
            m = most_near(alike, places, size)
            self.assertTrue(self.fits(m, alike, places, size) and not self.fits(m + 1, alike, places, size))
        draw = drawing(86)
        for _ in range(300):
            size = draw.randrange(1, FIGURES + 1)
            alike, places = draw.randrange(size // draw.choice((1, 10 ** 9, 10 ** 28)) + 1), draw.randrange(size + 1)
            if places * places > alike * size:
                m = most_near(alike, places, size)
                self.assertTrue(m >= 1 and self.fits(m, alike, places, size))
                self.assertFalse(self.fits(m + 1, alike, places, size))
            else:
                self.assertEqual(raised(Undefined, most_near, alike, places, size).what, "bound")

    def test_wrong_numbers_in_their_order(self):
        wrong = NO_INTEGERS + (-1, -FIGURES, Share(1, 1))
        for value in wrong + (0,):
            for alike, places in ((0, 1), (None, True), (-1, 0), (FIGURES, "")):
                self.assertIs(raised(InvalidNumber, most_near, alike, places, value).value, value)
        for size in (1, 9, FIGURES):
            for value in wrong + (size + 1, -size):
                for places in (0, size, None, -1, size + 1):
                    self.assertIs(raised(InvalidNumber, most_near, alike=value, places=places, size=size).value, value)
                for alike in (0, 1, size):
                    self.assertIs(raised(InvalidNumber, most_near, alike, value, size).value, value)

    def test_so_many_at_most_agree(self):
        several = reached = 0
        for one, other in ((words(2, 2, 2), cyclic(2)), (words(2, 2), words(2, 2)), (cyclic(5), cyclic(5))):
            first, second = Group(one), Group(other)
            homs = all_homs(first, second)
            alike = greatest_agreement(first, second)
            for f in itertools.product(range(second.size), repeat=first.size):
                near = [agreement(f, hom) for hom in homs]
                for places in range(first.size + 1):
                    if places * places > alike * first.size:
                        many = sum(told >= places for told in near)
                        self.assertLessEqual(many, most_near(alike, places, first.size))
                        several += many > 1
                        reached += many == most_near(alike, places, first.size)
        self.assertGreater(several, 100)
        self.assertGreater(reached, 100)


class WrongTest(unittest.TestCase):
    def test_no_maps(self):
        for one, other in larger_pairs():
            f = (neutral_of(other.table),) * one.size
            for value in no_maps(one, other, f):
                for call in (is_sure, hom_of, close_hom):
                    for _ in range(2):
                        self.assertIs(raised(InvalidMap, call, one, other, value).value, value)
