import unittest

from sevenninths.errors import InvalidNumber, InvalidSubset, TooMany
from sevenninths.groups import Group
from sevenninths.madegroups import (cyclic_group, dihedral_group, product_group, quaternion_group, renamed_group,
                                    symmetric_group, vector_group)
from sevenninths.shares import Share
from tests.helper import (NO_INTEGERS, NO_SEQUENCES, both, cyclic, drawing, permutations, quaternions, raised,
                          renamed, tables, turns, words)

FAR = (10 ** 29, -10 ** 29, Share(2, 1))


class MadeTest(unittest.TestCase):
    def check(self, made, table):
        self.assertIs(type(made), Group)
        self.assertEqual(made.table, table)
        self.assertEqual(made.size, len(table))

    def refused(self, call, *values):
        for value in values:
            for _ in range(2):
                self.assertIs(raised(InvalidNumber, call, value).value, value)

    def test_cyclic(self):
        for n in range(1, 49):
            for _ in range(2):
                self.check(cyclic_group(n), cyclic(n))
        self.check(cyclic_group(n=3), ((0, 1, 2), (1, 2, 0), (2, 0, 1)))
        self.refused(cyclic_group, 0, -1, -2, 49, 50, *FAR, *NO_INTEGERS)

    def test_dihedral(self):
        for n in range(1, 25):
            for _ in range(2):
                self.check(dihedral_group(n=n), turns(n))
        self.check(dihedral_group(1), ((0, 1), (1, 0)))
        made = dihedral_group(5)
        self.assertEqual((made.product(2, 4), made.product(2, 5 + 4), made.product(5 + 2, 4), made.product(5 + 2, 9)),
                         (1, 5 + 1, 5 + 3, 3))
        self.refused(dihedral_group, 0, -1, 25, 26, 48, *FAR, *NO_INTEGERS)

    def test_symmetric(self):
        for k in range(1, 5):
            for _ in range(2):
                self.check(symmetric_group(k=k), permutations(k))
        # 1 is (0, 2, 1) and 2 is (1, 0, 2): the product of these, the right one done first, is (2, 0, 1).
        made = symmetric_group(3)
        self.assertEqual((made.product(1, 2), made.product(2, 1)), (4, 3))
        self.refused(symmetric_group, 0, -1, 5, 6, *FAR, *NO_INTEGERS)

    def test_quaternions(self):
        for _ in range(2):
            self.check(quaternion_group(), quaternions())
        made = quaternion_group()
        for i, j, k in ((2, 4, 6), (4, 6, 2), (6, 2, 4)):
            self.assertEqual((made.product(i, j), made.product(j, i), made.product(i, i)), (k, k + 1, 1))
            self.assertEqual((made.product(i + 1, j), made.product(i + 1, j + 1)), (k + 1, k))

    def test_products(self):
        made = [table for table in tables() if len(table) <= 24]
        draw = drawing(21)
        for _ in range(60):
            one, other = draw.choice(made), draw.choice(made)
            first, second = Group(one), Group(other)
            for _ in range(2):
                if len(one) * len(other) > 48:
                    self.assertEqual(raised(TooMany, product_group, first, second).what, "elements")
                else:
                    self.check(product_group(first, second), both(one, other))
            self.assertEqual((first.table, second.table), (one, other))
        self.check(product_group(other=Group(cyclic(2)), one=Group(permutations(3))), both(permutations(3), cyclic(2)))

    def test_products_at_the_limit(self):
        for n, m in ((48, 1), (1, 48), (6, 8), (8, 6), (12, 4)):
            self.check(product_group(cyclic_group(n), cyclic_group(m)), both(cyclic(n), cyclic(m)))
        for n, m in ((7, 7), (48, 2), (2, 25), (48, 48), (2, 48)):
            error = raised(TooMany, product_group, cyclic_group(n), cyclic_group(m))
            self.assertEqual(error.what, "elements")

    def test_words(self):
        for base in range(2, 49):
            for length in range(1, 9):
                for _ in range(2):
                    if base ** length > 48:
                        self.assertEqual(raised(TooMany, vector_group, base, length).what, "elements")
                    else:
                        self.check(vector_group(base, length), words(*[base] * length))
        self.check(vector_group(length=1, base=48), cyclic(48))
        for base in (2, 7, 48):
            self.assertEqual(raised(TooMany, vector_group, base, 10 ** 30 - 1).what, "elements")

    def test_words_of_other_values(self):
        no_bases = (1, 0, -1, 49, 50, *FAR, *NO_INTEGERS)
        no_lengths = (0, -1, -10 ** 29, Share(2, 1), *NO_INTEGERS)
        for _ in range(2):
            for base in no_bases:
                for length in (1, 2, 100, *no_lengths):
                    self.assertIs(raised(InvalidNumber, vector_group, base, length).value, base)
            for length in no_lengths:
                for base in (2, 48):
                    self.assertIs(raised(InvalidNumber, vector_group, base, length).value, length)


class RenamedTest(unittest.TestCase):
    def test_renamed_and_back(self):
        draw = drawing(22)
        for table in tables():
            group = Group(table)
            n = len(table)
            for _ in range(3):
                order = tuple(draw.sample(range(n), n))
                for _ in range(2):
                    made = renamed_group(group, order=order)
                    self.assertIs(type(made), Group)
                    self.assertEqual(made.table, renamed(table, order))
                for i in range(n):
                    for j in range(n):
                        self.assertEqual(order[made.product(i, j)], group.product(order[i], order[j]))
                back = tuple(order.index(x) for x in range(n))
                self.assertEqual(renamed_group(made, back), group)
                self.assertEqual(group.table, table)
            self.assertEqual(renamed_group(group, tuple(range(n))), group)

    def test_orders_that_are_none(self):
        draw = drawing(23)
        for table in (cyclic(1), cyclic(2), cyclic(5), permutations(3), cyclic(48)):
            group = Group(table)
            n = len(table)
            order = tuple(draw.sample(range(n), n))
            wrong = [order + (n,), order + (0,), order[1:], list(order), order[1:] + (n,), order[1:] + (-1,), (order,)]
            wrong += [tuple(bool(x) if x < 2 else x for x in order)]
            wrong += [tuple(float(x) for x in order), tuple(Share(x, 1) for x in order)]
            wrong += [order[:place] + (value,) + order[place + 1:] for place in range(min(n, 3))
                      for value in NO_INTEGERS + (-1, n)]
            if n > 1:
                wrong += [order[:-1] + order[:1], (0,) * n]
            for value in [*wrong, *NO_SEQUENCES, *NO_INTEGERS]:
                for _ in range(2):
                    self.assertIs(raised(InvalidSubset, renamed_group, group, value).value, value)
            self.assertEqual(group.table, table)
