import unittest

from sevenninths.errors import InvalidMap, InvalidNumber
from sevenninths.groups import Group
from sevenninths.keeping import Kept
from sevenninths.maps import broken, votes
from sevenninths.ninths import is_sure
from sevenninths.shares import Share
from tests.helper import NO_INTEGERS, cyclic, drawing, neutral_of, permutations, raised, shuffled, small_tables
from tests.test_homs import larger_pairs, no_maps
from tests.test_maps import FIGURES, drawn_maps, plain_broken, plain_votes


class KeptTest(unittest.TestCase):
    def check(self, kept, one, other, f):
        for _ in range(2):
            self.assertEqual(kept.row, f)
            self.assertIs(type(kept.row), tuple)
            count = plain_broken(one.table, other.table, f)
            self.assertEqual((kept.broken, broken(one, other, f)), (count, count))
            self.assertIs(kept.sure, 9 * count < 2 * one.size * one.size)
            self.assertIs(kept.sure, is_sure(one, other, f))
        for x in {0, one.size // 2, one.size - 1}:
            self.assertEqual(kept.votes(x=x), plain_votes(one.table, other.table, f, x))
            self.assertEqual(kept.votes(x), votes(one, other, f, x))

    def test_many_changes(self):
        draw = drawing(181)
        sure = {True: 0, False: 0}
        for one, other in larger_pairs():
            for f in drawn_maps(one, other, draw, 1):
                kept = Kept(one=one, other=other, f=f)
                self.check(kept, one, other, f)
                # Few places are changed, so changes back again are among them.
                places = draw.choices(range(one.size), k=4) + [one.neutral]
                for _ in range(12 if one.size > 20 else 30):
                    x, value = draw.choice(places), draw.choice((f[0], draw.randrange(other.size), other.neutral))
                    self.assertEqual(kept.change(x=x, value=value), f[x])
                    f = f[:x] + (value,) + f[x + 1:]
                    self.check(kept, one, other, f)
                    sure[kept.sure] += 1
        self.assertGreater(min(sure.values()), 100)

    def test_each_place_and_value_of_small_groups(self):
        draw = drawing(182)
        for table in small_tables(6):
            one = Group(table)
            other = Group(shuffled(draw.choice(small_tables(6)), draw))
            f = tuple(draw.randrange(other.size) for _ in table)
            for x in range(one.size):
                for value in range(other.size):
                    kept = Kept(one, other, f)
                    self.assertEqual(kept.change(x, value), f[x])
                    self.check(kept, one, other, f[:x] + (value,) + f[x + 1:])
                    # There and back again.
                    self.assertEqual(kept.change(x, f[x]), value)
                    self.check(kept, one, other, f)

    def test_what_stands_there(self):
        for one, other in larger_pairs():
            f = tuple(x % other.size for x in range(one.size))
            kept = Kept(one, other, f)
            for x in range(one.size):
                self.assertEqual(kept.change(x, f[x]), f[x])
            self.check(kept, one, other, f)

    def test_the_edge_of_two_ninths(self):
        nine = Group(cyclic(9))
        three = Group(cyclic(3))
        kept = Kept(nine, three, (0, 0, 1, 1, 1, 2, 2, 2, 0))
        self.assertEqual((kept.broken, kept.sure), (18, False))
        kept = Kept(nine, three, (0, 1, 2, 0, 1, 2, 0, 1, 2))
        self.assertEqual((kept.broken, kept.sure, kept.change(1, 2), kept.broken, kept.sure), (0, True, 1, 22, False))

    def test_two_side_by_side(self):
        draw = drawing(183)
        six = Group(permutations(3))
        f = tuple(range(6))
        rows = [f, f]
        both = [Kept(six, six, f), Kept(six, six, f)]
        for _ in range(40):
            k, x, value = draw.randrange(2), draw.randrange(6), draw.randrange(6)
            self.assertEqual(both[k].change(x, value), rows[k][x])
            rows[k] = rows[k][:x] + (value,) + rows[k][x + 1:]
            for kept, row in zip(both, rows):
                self.check(kept, six, six, row)
        self.assertEqual(f, (0, 1, 2, 3, 4, 5))

    def test_rows_that_were_read_stay_as_they_are(self):
        four = Group(cyclic(4))
        kept = Kept(four, four, (0, 1, 2, 3))
        row, told = kept.row, kept.votes(1)
        kept.change(2, 0)
        self.assertEqual((row, told, kept.row), ((0, 1, 2, 3), (0, 4, 0, 0), (0, 1, 0, 3)))


class WrongTest(unittest.TestCase):
    def test_no_maps(self):
        for one, other in larger_pairs():
            for value in no_maps(one, other, (neutral_of(other.table),) * one.size):
                self.assertIs(raised(InvalidMap, Kept, one, other, value).value, value)

    def test_refused_changes_change_nothing(self):
        for one, other in larger_pairs():
            f = tuple(x % other.size for x in range(one.size))
            kept = Kept(one, other, f)
            before = (kept.row, kept.broken, kept.sure, kept.votes(0))
            for x in NO_INTEGERS + (-1, one.size, one.size + 1, -one.size, FIGURES, Share(0, 1)):
                for value in (0, other.size, None, True):
                    self.assertIs(raised(InvalidNumber, kept.change, x, value).value, x)
                self.assertIs(raised(InvalidNumber, kept.votes, x).value, x)
            for value in NO_INTEGERS + (-1, other.size, other.size + 1, -other.size, FIGURES, Share(0, 1)):
                for x in (0, one.size - 1):
                    for _ in range(2):
                        self.assertIs(raised(InvalidNumber, kept.change, x=x, value=value).value, value)
            self.assertEqual((kept.row, kept.broken, kept.sure, kept.votes(0)), before)
