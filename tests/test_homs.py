import itertools
import math
import unittest

from sevenninths.errors import InvalidMap, InvalidSubset, TooMany, Undefined
from sevenninths.groups import Group
from sevenninths.homs import (agreement, all_homs, first_broken, greatest_agreement, hom_from, image, is_hom, kernel)
from sevenninths.shares import Share
from sevenninths.subsets import generators, is_subgroup
from tests.helper import (NO_INTEGERS, NO_SEQUENCES, cyclic, drawing, even_permutations, neutral_of, permutations,
                          quaternions, raised, shuffled, small_tables, turns, words)
from tests.test_subsets import least_subgroup, no_subsets


def broken_pair(one, other, f):
    """The first pair that f breaks, by the tables alone."""
    every = range(len(one))
    return next(((x, y) for x in every for y in every if other[f[x]][f[y]] != f[one[x][y]]), None)


def every_hom(one, other):
    """Those of all maps at all that break no pair."""
    maps = itertools.product(range(len(other)), repeat=len(one))
    return tuple(f for f in maps if broken_pair(one, other, f) is None)


def pairs_of_tables():
    """Pairs of tables, with so few maps that all can be judged."""
    draw = drawing(51)
    small = [table for table in small_tables(8)] + [shuffled(cyclic(3), draw), shuffled(words(2, 2), draw)]
    return [(one, other) for one in small for other in small if len(other) ** len(one) <= 3125]


def larger_pairs():
    """Pairs of larger groups, some with homomorphisms in plenty."""
    return [(Group(one), Group(other)) for one, other in (
        (cyclic(12), cyclic(4)), (cyclic(48), cyclic(48)), (words(2, 2, 2), words(2, 2)), (permutations(4), turns(4)),
        (permutations(3), permutations(4)), (quaternions(), quaternions()), (turns(6), words(2, 2)), (words(3, 3), cyclic(9)),
        (even_permutations(4), cyclic(3)), (cyclic(1), cyclic(5)), (cyclic(5), cyclic(1)), (cyclic(9), cyclic(8)),
        (shuffled(permutations(4), drawing(52)), permutations(3)), (turns(4), shuffled(quaternions(), drawing(53))))]


def no_maps(one, other, f):
    """Values that are no map of (one, other), most of them made from the map f."""
    draw = drawing(54)
    place = draw.randrange(one.size)
    found = [list(f), f + (0,), f[1:], f + f, (f,), tuple(float(x) for x in f)]
    for value in NO_INTEGERS + (-1, other.size, other.size + 1, 10 ** 29, Share(0, 1)):
        found += [f[:place] + (value,) + f[place + 1:], (value,) + f[1:], f[:-1] + (value,)]
    return found + list(NO_SEQUENCES) + [value for value in NO_INTEGERS if value != (1,)] + [(), (0,) * 49]


class BrokenTest(unittest.TestCase):
    def check(self, one, other, f):
        told = broken_pair(one.table, other.table, f)
        for _ in range(2):
            self.assertEqual(first_broken(one, other, f), told)
            self.assertIs(is_hom(one, other, f), told is None)
            for call in (kernel, image):
                if told is not None:
                    self.assertEqual(raised(Undefined, call, one, other, f).what, "hom")
        return told is None

    def test_homs_and_the_same_with_values_changed(self):
        draw = drawing(55)
        for one, other in larger_pairs():
            for f in draw.choices(all_homs(one, other), k=6):
                self.assertTrue(self.check(one, other, f))
                for count in (1, 1, 2, 4):
                    g = list(f)
                    for _ in range(count):
                        g[draw.randrange(one.size)] = draw.randrange(other.size)
                    self.check(one, other, tuple(g))
                self.check(one, other, tuple(draw.randrange(other.size) for _ in f))
                self.check(one=one, other=other, f=f)

    def test_all_maps_of_small_groups(self):
        for one, other in pairs_of_tables():
            if len(other) ** len(one) <= 300:
                first, second = Group(one), Group(other)
                for f in itertools.product(range(len(other)), repeat=len(one)):
                    self.check(first, second, f)

    def test_first_pair(self):
        one, other = Group(cyclic(3)), Group(cyclic(3))
        self.assertEqual(first_broken(one, other, (1, 1, 1)), (0, 0))
        self.assertEqual(first_broken(one, other, (0, 1, 1)), (1, 1))
        self.assertEqual(first_broken(one, other, (0, 0, 1)), (1, 1))
        self.assertIsNone(first_broken(one, other, (0, 2, 1)))
        # f(x)f(y) is meant, not f(y)f(x).
        six = Group(permutations(3))
        self.assertIsNone(first_broken(six, six, (0, 1, 2, 3, 4, 5)))
        backwards = tuple(six.inverse(x) for x in range(6))
        self.assertEqual(first_broken(six, six, backwards), (1, 2))

    def test_no_maps(self):
        for one, other in larger_pairs():
            f = (other.neutral,) * one.size
            for value in no_maps(one, other, f):
                for call in (first_broken, is_hom, kernel, image):
                    for _ in range(2):
                        self.assertIs(raised(InvalidMap, call, one, other, value).value, value)


class AllHomsTest(unittest.TestCase):
    def test_of_small_groups(self):
        for one, other in pairs_of_tables():
            for _ in range(2):
                self.assertEqual(all_homs(one=Group(one), other=Group(other)), every_hom(one, other))

    def test_of_larger_groups(self):
        for one, other in larger_pairs():
            found = all_homs(one, other)
            self.assertIs(type(found), tuple)
            self.assertEqual({type(f) for f in found}, {tuple})
            self.assertEqual(list(found), sorted(set(found)))
            self.assertIn((other.neutral,) * one.size, found)
            for f in found:
                self.assertIsNone(broken_pair(one.table, other.table, f))

    def test_how_many(self):
        for n in (1, 2, 6, 12, 35, 48):
            for m in (1, 2, 6, 9, 16, 48):
                found = all_homs(Group(cyclic(n)), Group(cyclic(m)))
                step = m // math.gcd(n, m)
                self.assertEqual(found, tuple(tuple(x * a % m for x in range(n)) for a in range(0, m, step)))
        for one, other, count in ((permutations(3), permutations(3), 10), (quaternions(), quaternions(), 28),
                                  (permutations(4), permutations(4), 58), (words(2, 2, 2), words(2, 2, 2), 512),
                                  (turns(4), quaternions(), 4), (even_permutations(4), even_permutations(4), 33)):
            self.assertEqual(len(all_homs(Group(one), Group(other))), count)

    def test_rows(self):
        # 20,000 rows are the most: 27 ** 3 is 19,683 and 28 ** 3 is 21,952.
        three, four, five = Group(words(2, 2, 2)), Group(words(2, 2, 2, 2)), Group(words(2, 2, 2, 2, 2))
        self.assertEqual(len(all_homs(three, Group(cyclic(27)))), 1)
        self.assertEqual(len(all_homs(four, Group(cyclic(11)))), 1)
        self.assertEqual(len(all_homs(five, Group(cyclic(7)))), 1)
        for one, m in ((three, 28), (four, 12), (five, 8), (three, 48), (five, 48)):
            for _ in range(2):
                self.assertEqual(raised(TooMany, all_homs, one, Group(cyclic(m))).what, "rows")


class HomFromTest(unittest.TestCase):
    def test_generating_and_other_subsets(self):
        draw = drawing(56)
        met = {}
        for one, other in larger_pairs() + [(Group(p), Group(q)) for p, q in pairs_of_tables()]:
            homs = all_homs(one, other)
            for size in (0, 1, 2, 2, 3, one.size, None):
                subset = generators(one) if size is None else tuple(
                    sorted(draw.sample(range(one.size), min(size, one.size))))
                hom = draw.choice(homs)
                values = [tuple(hom[x] for x in subset), tuple(draw.randrange(other.size) for _ in subset)]
                values.append(tuple(draw.choice((hom[x], draw.randrange(other.size))) for x in subset))
                for row in values:
                    met.setdefault(self.check(one, other, homs, subset, row), True)
        self.assertEqual(set(met), {"subset", "hom", "none"})

    def check(self, one, other, homs, subset, values):
        if len(least_subgroup(one.table, subset)) < one.size:
            for _ in range(2):
                self.assertEqual(raised(Undefined, hom_from, one, other, subset, values).what, "subset")
            return "subset"
        told = [f for f in homs if tuple(f[x] for x in subset) == values]
        self.assertLessEqual(len(told), 1)
        for _ in range(2):
            found = hom_from(one, other, subset=subset, values=values)
            self.assertEqual([] if found is None else [found], told)
        return "hom" if told else "none"

    def test_all_values_of_small_groups(self):
        for one, other in pairs_of_tables():
            first, second = Group(one), Group(other)
            homs = all_homs(first, second)
            for subset in ((), (0,), (1,), (0, 1), (1, 2), tuple(range(len(one)))):
                if max(subset, default=0) < len(one) and len(other) ** len(subset) <= 64:
                    for values in itertools.product(range(len(other)), repeat=len(subset)):
                        self.check(first, second, homs, subset, values)

    def test_trivial_groups(self):
        point, three = Group(cyclic(1)), Group(cyclic(3))
        self.assertEqual(hom_from(point, three, (), ()), (0,))
        self.assertEqual(hom_from(point, three, (0,), (0,)), (0,))
        self.assertIsNone(hom_from(point, three, (0,), (1,)))
        self.assertEqual(hom_from(three, point, (1,), (0,)), (0, 0, 0))

    def test_values_that_are_none(self):
        for one, other in larger_pairs():
            subset = generators(one)
            hom = (other.neutral,) * len(subset)
            wrong = [list(hom), hom + (0,), (hom,), hom + hom + (0,), None, 0, "0", {}, True]
            if hom:
                wrong += [hom[1:], (), "0" * len(hom)]
                wrong += [hom[:-1] + (value,) for value in NO_INTEGERS + (-1, other.size, 10 ** 29, Share(0, 1))]
                wrong += [(value,) + hom[1:] for value in NO_INTEGERS + (-1, other.size)]
            for value in wrong:
                for _ in range(2):
                    self.assertIs(raised(InvalidMap, hom_from, one, other, subset, value).value, value)

    def test_errors_in_their_order(self):
        one, other = Group(words(2, 2)), Group(cyclic(2))
        for subset in no_subsets(4):
            for values in ((0, 0), None, (5,)):
                self.assertIs(raised(InvalidSubset, hom_from, one, other, subset, values).value, subset)
        for subset in ((), (0,), (1,), (0, 1)):
            for values in ((0,) * len(subset), (0, 0, 0), None, (5,)):
                self.assertEqual(raised(Undefined, hom_from, one, other, subset, values).what, "subset")
        for values in ((0,), (0, 2), [0, 0], (0, True)):
            self.assertIs(raised(InvalidMap, hom_from, one, other, (1, 2), values).value, values)


class PartsTest(unittest.TestCase):
    def test_kernel_and_image(self):
        draw = drawing(57)
        for one, other in larger_pairs():
            for f in draw.choices(all_homs(one, other), k=8):
                for _ in range(2):
                    first, second = kernel(one, other, f=f), image(one, other, f=f)
                    self.assertEqual(first, tuple(x for x in range(one.size) if f[x] == neutral_of(other.table)))
                    self.assertEqual(second, tuple(h for h in range(other.size) if h in f))
                self.assertEqual(len(first) * len(second), one.size)
                self.assertTrue(is_subgroup(one, first) and is_subgroup(other, second))

    def test_agreement(self):
        draw = drawing(58)
        for n in (1, 2, 9, 48):
            for m in (1, 2, 5):
                f = tuple(draw.randrange(m) for _ in range(n))
                g = tuple(draw.randrange(m) for _ in range(n))
                for _ in range(2):
                    self.assertEqual(agreement(f=f, g=g), sum(a == b for a, b in zip(f, g)))
                self.assertEqual(agreement(f, f), n)
        self.assertEqual(agreement((0, 1, 2), (0, 2, 2)), 2)
        self.assertEqual(agreement((0, 1), (1, 0)), 0)

    def test_greatest_agreement(self):
        for one, other in larger_pairs() + [(Group(p), Group(q)) for p, q in pairs_of_tables()]:
            homs = all_homs(one, other)
            told = max((agreement(f, g) for f, g in itertools.combinations(homs, 2)), default=None)
            if other.size ** len(generators(one)) > 1000:
                self.assertEqual(raised(TooMany, greatest_agreement, one, other).what, "rows")
                continue
            for _ in range(2):
                self.assertEqual(greatest_agreement(one=one, other=other), told)
            if told is not None:
                self.assertEqual(one.size % told, 0)
                least_prime = next(p for p in range(2, 49) if one.size % p == 0)
                self.assertLessEqual(told, one.size // least_prime)

    def test_greatest_agreement_alone(self):
        for one, other in ((cyclic(9), cyclic(8)), (cyclic(1), cyclic(5)), (cyclic(5), cyclic(1))):
            for _ in range(2):
                self.assertIsNone(greatest_agreement(Group(one), Group(other)))

    def test_rows_of_greatest_agreement(self):
        # 1,000 rows are the most: 31 ** 2 is 961, 10 ** 3 just 1,000.
        two, three = Group(words(3, 3)), Group(words(2, 2, 2))
        self.assertIsNone(greatest_agreement(two, Group(cyclic(31))))
        self.assertEqual(greatest_agreement(three, Group(cyclic(10))), 4)
        for one, m in ((two, 32), (three, 11), (two, 48)):
            for _ in range(2):
                self.assertEqual(raised(TooMany, greatest_agreement, one, Group(cyclic(m))).what, "rows")
