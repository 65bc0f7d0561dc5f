import itertools
import unittest

from sevenninths.errors import Undefined
from sevenninths.groups import Group
from sevenninths.homs import is_hom
from sevenninths.maps import broken
from sevenninths.twoproducts import nine_pair, products_apart, renaming
from tests.helper import (cyclic, drawing, even_permutations, permutations, quaternions, raised, renamed, shuffled,
                          tables, turns, words)


def plain_apart(one, other):
    """The pairs whose products are unlike, by the tables alone."""
    every = range(len(one))
    return sum(one[x][y] != other[x][y] for x in every for y in every)


def exchanged(size, places):
    """All elements in order, but the element at each of the places with that at the next one of them."""
    order = list(range(size))
    for place, following in zip(places, places[1:] + places[:1]):
        order[place] = following
    return order


def near_pairs():
    """Pairs of tables that are one but for few elements exchanged, of all sizes."""
    draw = drawing(91)
    found = []
    for table in tables():
        size = len(table)
        for count in (0, 2, 2, 3, 4, 5):
            if count <= size:
                found.append((table, renamed(table, exchanged(size, draw.sample(range(size), count)))))
    return found


class ApartTest(unittest.TestCase):
    def test_against_the_tables(self):
        draw = drawing(92)
        pairs = near_pairs() + [(table, shuffled(table, draw)) for table in tables()]
        pairs += [(cyclic(4), words(2, 2)), (quaternions(), turns(4)), (cyclic(6), permutations(3)),
                  (words(3, 3), cyclic(9)), (even_permutations(4), cyclic(12)), (permutations(4), turns(12))]
        for one, other in pairs:
            first, second = Group(one), Group(other)
            for _ in range(2):
                self.assertEqual(products_apart(one=first, other=second), plain_apart(one, other))
            self.assertEqual(products_apart(second, first), plain_apart(one, other))
            self.assertEqual(broken(first, second, tuple(range(first.size))), plain_apart(one, other))

    def test_a_group_and_itself(self):
        for table in tables():
            self.assertEqual(products_apart(Group(table), Group(table)), 0)
        self.assertEqual(products_apart(Group(cyclic(1)), Group(cyclic(1))), 0)

    def test_unlike_sizes(self):
        for n, m in ((1, 2), (2, 1), (4, 6), (47, 48), (48, 1), (9, 3)):
            for call in (products_apart, renaming):
                for _ in range(2):
                    self.assertEqual(raised(Undefined, call, Group(cyclic(n)), Group(cyclic(m))).what, "size")


class RenamingTest(unittest.TestCase):
    def test_elements_exchanged(self):
        met = {"same": 0, "renamed": 0, "far": 0}
        for one, other in near_pairs():
            first, second = Group(one), Group(other)
            n = first.size
            if 9 * plain_apart(one, other) >= 2 * n * n:
                self.assertEqual(raised(Undefined, renaming, first, second).what, "hom")
                met["far"] += 1
                continue
            for _ in range(2):
                f = renaming(one=first, other=second)
                self.assertIs(type(f), tuple)
                self.assertEqual(sorted(f), list(range(n)))
                self.assertTrue(all(other[f[x]][f[y]] == f[one[x][y]] for x in range(n) for y in range(n)))
                self.assertLess(10 * sum(f[x] != x for x in range(n)), n)
            met["same" if f == tuple(range(n)) else "renamed"] += 1
            if n <= 22:
                self.assertEqual(one, other)
        self.assertGreater(min(met.values()), 10)

    def test_two_of_48_elements_exchanged(self):
        for one in (cyclic(48), turns(24), words(2, 2, 2, 2, 3), shuffled(turns(24), drawing(93))):
            for a, b in ((1, 2), (0, 47), (20, 21), (5, 40)):
                order = exchanged(48, [a, b])
                first, second = Group(one), Group(renamed(one, order))
                if second != first:
                    self.assertEqual(renaming(first, second)[a], b)
                    self.assertEqual(renaming(first, second), tuple(order))
                    self.assertEqual(renaming(second, first), tuple(order))

    def test_which_way_it_goes(self):
        # Three elements exchanged in a circle: the way from one to the other is not the way back.
        order = exchanged(48, [7, 19, 30])
        one = cyclic(48)
        first, second = Group(one), Group(renamed(one, order))
        there, back = renaming(first, second), renaming(second, first)
        self.assertNotEqual(there, back)
        self.assertEqual(back, tuple(order))
        self.assertEqual([there[x] for x in back], list(range(48)))
        self.assertTrue(is_hom(first, second, there) and is_hom(second, first, back))

    def test_a_group_and_itself(self):
        for table in tables():
            self.assertEqual(renaming(Group(table), Group(table)), tuple(range(len(table))))

    def test_on_few_elements_near_ones_are_the_same(self):
        for table in (cyclic(4), cyclic(5), words(2, 2), permutations(3), cyclic(22), turns(11), cyclic(20)):
            n = len(table)
            for a, b in itertools.combinations(range(n), 2):
                other = renamed(table, exchanged(n, [a, b]))
                if 9 * plain_apart(table, other) < 2 * n * n:
                    self.assertEqual(table, other)
                else:
                    self.assertEqual(raised(Undefined, renaming, Group(table), Group(other)).what, "hom")

    def test_unlike_groups(self):
        for one, other in ((cyclic(4), words(2, 2)), (quaternions(), turns(4)), (permutations(4), turns(12)),
                           (cyclic(48), turns(24)), (cyclic(48), words(2, 24))):
            self.assertEqual(raised(Undefined, renaming, Group(one), Group(other)).what, "hom")


class NinePairTest(unittest.TestCase):
    def test_the_two(self):
        for _ in range(2):
            pair = nine_pair()
            self.assertIs(type(pair), tuple)
            one, other = pair
            parts = [(t // 3, t % 3 - 1) for t in range(9)]
            for x, (k, r) in enumerate(parts):
                for y, (m, s) in enumerate(parts):
                    told = [(u, v) for u, v in parts if (3 * u + v - (3 * k + r + 3 * m + s)) % 9 == 0]
                    self.assertEqual([parts[one.product(x, y)]], told)
                    told = [(u, v) for u, v in parts if u == (k + m) % 3 and (v - r - s) % 3 == 0]
                    self.assertEqual([parts[other.product(x, y)]], told)

    def test_what_the_document_says_of_them(self):
        one, other = nine_pair()
        self.assertEqual((one.size, other.size, one.neutral, other.neutral), (9, 9, 1, 1))
        self.assertEqual(products_apart(one, other), 18)
        self.assertEqual(plain_apart(one.table, other.table), 18)
        self.assertEqual(raised(Undefined, renaming, one, other).what, "hom")
        self.assertEqual(raised(Undefined, renaming, other, one).what, "hom")
        # One has an element of order 9, the other one has none.
        self.assertEqual({one.order(x) for x in range(9)}, {1, 3, 9})
        self.assertEqual({other.order(x) for x in range(9)}, {1, 3})
