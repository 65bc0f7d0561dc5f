import itertools
import unittest

from sevenninths.errors import InvalidMap, InvalidNumber, TooMany
from sevenninths.groups import Group
from sevenninths.homs import agreement, all_homs
from sevenninths.maps import (broken, broken_share, equal_votes, least_broken, most_broken, nearest_homs, voted, votes,
                              wrong_places)
from sevenninths.shares import Share
from tests.helper import (NO_INTEGERS, cyclic, drawing, neutral_of, permutations, quaternions, raised, shuffled, turns,
                          words)
from tests.test_homs import larger_pairs, no_maps

FIGURES = 10 ** 30 - 1


def plain_broken(one, other, f):
    """The pairs that f breaks, by the tables alone."""
    every = range(len(one))
    return sum(other[f[x]][f[y]] != f[one[x][y]] for x in every for y in every)


def plain_votes(one, other, f, x):
    """For each h the number of y for which f(xy) is hf(y), by the tables alone."""
    every = range(len(one))
    return tuple(sum(other[h][f[y]] == f[one[x][y]] for y in every) for h in range(len(other)))


def changed(f, size, count, draw):
    """The map with other values below size at just so many places."""
    g = list(f)
    for place in draw.sample(range(len(f)), count):
        g[place] = draw.choice([h for h in range(size) if h != f[place]])
    return tuple(g)


def drawn_maps(one, other, draw, count):
    """Maps of two groups: homomorphisms, the same with few and many values changed, and any at all."""
    homs = all_homs(one, other)
    found = []
    for _ in range(count):
        hom = draw.choice(homs)
        found += [hom, tuple(draw.randrange(other.size) for _ in hom)]
        if other.size > 1:
            found.append(changed(hom, other.size, draw.randrange(one.size + 1), draw))
            found.append(changed(hom, other.size, draw.randrange(one.size // 4 + 1), draw))
    return found


def all_small_maps():
    """All maps of some small groups."""
    for one, other in ((cyclic(4), cyclic(2)), (words(2, 2), cyclic(3)), (cyclic(1), cyclic(4)), (cyclic(3), cyclic(1)),
                       (cyclic(2), permutations(3)), (permutations(3), cyclic(2)), (shuffled(cyclic(3), drawing(71)),
                                                                                   shuffled(cyclic(4), drawing(72)))):
        for f in itertools.product(range(len(other)), repeat=len(one)):
            yield Group(one), Group(other), f


def many_maps(seed, count):
    draw = drawing(seed)
    found = [(one, other, f) for one, other in larger_pairs() for f in drawn_maps(one, other, draw, count)]
    return found + list(all_small_maps())


class CountsTest(unittest.TestCase):
    def test_broken(self):
        met = set()
        for one, other, f in many_maps(73, 3):
            told = plain_broken(one.table, other.table, f)
            n = one.size
            for _ in range(2):
                self.assertEqual(broken(one, other, f=f), told)
                share = broken_share(one, other, f)
                self.assertIs(type(share), Share)
                self.assertEqual(share, Share(told, n * n))
            self.assertIs(type(broken(one, other, f)), int)
            met.add(told == 0)
        self.assertEqual(met, {True, False})

    def test_shown_ones(self):
        one, two = Group(cyclic(12)), Group(cyclic(4))
        f = (0, 1, 2, 3, 0, 1, 3, 3, 0, 1, 2, 3)
        self.assertEqual(broken(one=one, other=two, f=f), 31)
        self.assertEqual(broken_share(one=one, other=two, f=f).written(), "31/144")
        self.assertEqual(votes(one=one, other=two, f=f, x=6), (0, 1, 10, 1))
        self.assertEqual(voted(one=one, other=two, f=f), f[:6] + (2,) + f[7:])
        self.assertEqual(equal_votes(one=one, other=two, f=f, x=6), 102)
        self.assertEqual(nearest_homs(one=one, other=two, f=f), (11, (f[:6] + (2,) + f[7:],)))
        self.assertEqual(broken_share(two, two, (1, 1, 1, 1)), Share(1, 1))
        self.assertEqual(broken_share(two, two, (0, 0, 0, 0)).written(), "0")

    def test_votes_and_voted(self):
        for one, other, f in many_maps(74, 2):
            rows = [plain_votes(one.table, other.table, f, x) for x in range(one.size)]
            self.assertEqual([votes(one, other, f, x) for x in range(one.size)], rows)
            for _ in range(2):
                self.assertEqual(voted(one, other, f), tuple(row.index(max(row)) for row in rows))
            for x, row in enumerate(rows):
                self.assertEqual(sum(row), one.size)
                self.assertEqual(equal_votes(one, other, f, x), sum(count ** 2 for count in row))
        self.assertIs(type(votes(one, other, f, 0)), tuple)
        self.assertIs(type(voted(one, other, f)), tuple)

    def test_equal_votes_are_pairs(self):
        for one, other, f in list(all_small_maps())[::7]:
            back = [other.inverse(h) for h in f]
            for x in range(one.size):
                told = [other.table[f[one.table[x][y]]][back[y]] for y in range(one.size)]
                count = sum(a == b for a in told for b in told)
                self.assertEqual(equal_votes(one, other, f, x), count)

    def test_the_least_of_equally_many_votes(self):
        two = Group(cyclic(2))
        self.assertEqual(votes(Group(cyclic(4)), two, (0, 1, 1, 0), 1), (2, 2))
        self.assertEqual(voted(Group(cyclic(4)), two, (0, 1, 1, 0)), (0, 0, 1, 0))
        ties = 0
        for one, other, f in all_small_maps():
            for x, value in enumerate(voted(one, other, f)):
                row = votes(one, other, f, x)
                best = [h for h in range(other.size) if row[h] == max(row)]
                ties += len(best) > 1
                self.assertEqual(value, best[0])
        self.assertGreater(ties, 100)

    def test_an_inverse_is_taken_and_on_the_right(self):
        # In the permutations of three f(xy)f(y)^-1 is not f(y)^-1 f(xy).
        six = Group(permutations(3))
        f = (0, 1, 2, 4, 3, 5)
        self.assertEqual(votes(six, six, f, 3), plain_votes(six.table, six.table, f, 3))
        three = Group(cyclic(3))
        self.assertEqual(votes(three, three, (0, 2, 1), 1), (0, 0, 3))
        self.assertEqual(votes(three, three, (0, 1, 1), 1), (1, 1, 1))
        self.assertEqual(votes(three, three, (1, 1, 1), 0), (3, 0, 0))

    def test_wrong_places(self):
        draw = drawing(75)
        for n in (1, 2, 9, 48):
            for m in (1, 2, 5):
                for _ in range(10):
                    f, g = [tuple(draw.randrange(m) for _ in range(n)) for _ in range(2)]
                    told = tuple(place for place in range(n) if f[place] != g[place])
                    self.assertEqual(wrong_places(f=f, g=g), told)
                    self.assertEqual(len(wrong_places(g, f)), n - agreement(f, g))
                self.assertEqual(wrong_places(f, f), ())
        self.assertEqual(wrong_places((0, 1, 2, 3), (1, 1, 3, 3)), (0, 2))


class BoldTest(unittest.TestCase):
    def test_equal_votes_and_votes_for_one(self):
        for one, other, f in many_maps(76, 3):
            n, wrong = one.size, broken(one, other, f)
            for x in range(n):
                self.assertGreaterEqual(equal_votes(one, other, f, x), n * n - 2 * wrong)
                for count in votes(one, other, f, x):
                    self.assertLessEqual(count * (n - count), wrong)

    def test_broken_pairs_of_a_changed_homomorphism(self):
        draw = drawing(77)
        for one, other in larger_pairs():
            if other.size > 1:
                for w in range(one.size + 1):
                    f = changed(draw.choice(all_homs(one, other)), other.size, w, draw)
                    count = broken(one, other, f)
                    self.assertLessEqual(least_broken(one.size, w), count)
                    self.assertGreaterEqual(most_broken(one.size, w), count)

    def test_all_maps_of_small_groups_against_all_homomorphisms(self):
        for one, other, f in all_small_maps():
            count = broken(one, other, f)
            for hom in all_homs(one, other):
                w = len(wrong_places(f, hom))
                self.assertTrue(least_broken(one.size, w) <= count <= most_broken(one.size, w))


class BoundsTest(unittest.TestCase):
    def test_all_small_numbers(self):
        for n in range(1, 60):
            for w in range(n + 1):
                least, most = 3 * w * n - 6 * w ** 2, 3 * w * n - 2 * w ** 2
                for _ in range(2):
                    self.assertEqual(least_broken(n=n, w=w), least if least > 0 else 0)
                    self.assertEqual(most_broken(n=n, w=w), most if most < n * n else n * n)

    def test_edges(self):
        for n in (1, 2, 7, 48, FIGURES):
            self.assertEqual((least_broken(n, 0), most_broken(n, 0)), (0, 0))
            self.assertEqual((least_broken(n, n), most_broken(n, n)), (0, n * n))
        self.assertEqual((least_broken(48, 1), most_broken(48, 1)), (138, 142))
        # Up to the half of the places the least is above 0; from there on the most is all pairs.
        self.assertEqual((least_broken(48, 23), least_broken(48, 24), least_broken(48, 25)), (138, 0, 0))
        self.assertEqual((most_broken(48, 23), most_broken(48, 24), most_broken(48, 25)), (2254, 2304, 2304))
        n = FIGURES
        self.assertEqual(least_broken(n, n // 4), 3 * n * (n // 4) - 6 * (n // 4) ** 2)
        self.assertEqual(most_broken(n, n // 4), 3 * n * (n // 4) - 2 * (n // 4) ** 2)

    def test_wrong_numbers(self):
        for call in (least_broken, most_broken):
            for n in NO_INTEGERS + (0, -1, -48, -FIGURES, Share(5, 1)):
                for w in (0, 1, -1, None, FIGURES, True):
                    self.assertIs(raised(InvalidNumber, call, n, w).value, n)
            for n in (1, 5, FIGURES):
                for w in NO_INTEGERS + (-1, n + 1, -n, 2 * n + 1, Share(0, 1)):
                    for _ in range(2):
                        self.assertIs(raised(InvalidNumber, call, n=n, w=w).value, w)


class NearestTest(unittest.TestCase):
    def test_against_all_homomorphisms(self):
        many = set()
        for one, other, f in many_maps(78, 2):
            homs = all_homs(one, other)
            told = {hom: sum(a == b for a, b in zip(f, hom)) for hom in homs}
            most = max(told.values())
            nearest = tuple(sorted(hom for hom in homs if told[hom] == most))
            for _ in range(2):
                found = nearest_homs(one, other, f)
                self.assertEqual(found, (most, nearest))
                self.assertEqual({type(part) for part in found[1] + (found, found[1])}, {tuple})
            many.add(len(nearest))
        self.assertLessEqual({1, 2, 3}, many)

    def test_several(self):
        one, two = Group(words(2, 2)), Group(cyclic(2))
        self.assertEqual(nearest_homs(one, two, (0, 0, 0, 1)), (3, ((0, 0, 0, 0), (0, 0, 1, 1), (0, 1, 0, 1))))
        self.assertEqual(nearest_homs(one, two, (0, 1, 1, 0)), (4, ((0, 1, 1, 0),)))
        self.assertEqual(nearest_homs(one, two, (1, 0, 0, 1)), (2, ((0, 0, 0, 0), (0, 0, 1, 1), (0, 1, 0, 1))))
        self.assertEqual(nearest_homs(Group(cyclic(1)), Group(cyclic(3)), (2,)), (0, ((0,),)))

    def test_rows(self):
        three = Group(words(2, 2, 2))
        most = Group(cyclic(27))
        self.assertEqual(nearest_homs(three, most, (5,) * 8), (0, ((0,) * 8,)))
        for one, m in ((three, 28), (Group(words(2, 2, 2, 2)), 12), (Group(words(2, 2, 2, 2, 2)), 8)):
            for _ in range(2):
                self.assertEqual(raised(TooMany, nearest_homs, one, Group(cyclic(m)), (0,) * one.size).what, "rows")
            # A value that is no map is told first.
            for wrong in ((m,) * one.size, [0] * one.size, (0,), None):
                self.assertIs(raised(InvalidMap, nearest_homs, one, Group(cyclic(m)), wrong).value, wrong)


class WrongTest(unittest.TestCase):
    def test_no_maps(self):
        for one, other in larger_pairs():
            f = (neutral_of(other.table),) * one.size
            for value in no_maps(one, other, f):
                for call in (broken, broken_share, voted, nearest_homs):
                    self.assertIs(raised(InvalidMap, call, one, other, value).value, value)
                for call in (votes, equal_votes):
                    for x in (0, -1, None, True, 10 ** 29):
                        self.assertIs(raised(InvalidMap, call, one, other, value, x).value, value)

    def test_no_places(self):
        for one, other in larger_pairs():
            f = (neutral_of(other.table),) * one.size
            for x in NO_INTEGERS + (-1, one.size, one.size + 1, -one.size, FIGURES, Share(0, 1)):
                for call in (votes, equal_votes):
                    for _ in range(2):
                        self.assertIs(raised(InvalidNumber, call, one, other, f, x).value, x)

    def test_large_groups_are_answered(self):
        draw = drawing(79)
        for one, other in ((quaternions(), turns(24)), (turns(24), permutations(4)), (words(2, 2, 12), words(2, 2, 12))):
            first, second = Group(one), Group(other)
            for _ in range(3):
                f = tuple(draw.randrange(len(other)) for _ in one)
                self.assertEqual(broken(first, second, f), plain_broken(one, other, f))
                rows = [votes(first, second, f, x) for x in range(len(one))]
                self.assertEqual(voted(first, second, f), tuple(row.index(max(row)) for row in rows))
