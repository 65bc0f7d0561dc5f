import itertools
import unittest

from sevenninths.errors import InvalidSubset, TooMany, Undefined
from sevenninths.groups import Group
from sevenninths.shares import Share
from sevenninths.subsets import (factor_group, generated, generators, is_normal, is_subgroup, left_cosets,
                                 right_cosets, subgroups)
from tests.helper import (NO_INTEGERS, NO_SEQUENCES, both, cyclic, drawing, even_permutations, neutral_of,
                          permutations, quaternions, raised, small_tables, tables, turns, words)


def closed(table, subset):
    return all(table[x][y] in subset for x in subset for y in subset)


def least_subgroup(table, subset):
    """Grown by all products of two of its elements until there is no new one."""
    held = {neutral_of(table), *subset}
    while True:
        larger = held | {table[x][y] for x in held for y in held}
        if larger == held:
            return tuple(sorted(held))
        held = larger


def every_subgroup(table):
    """Those of all subsets that hold the neutral element and all products."""
    n = len(table)
    found = [subset for size in range(1, n + 1) if n % size == 0 for subset in itertools.combinations(range(n), size)
             if neutral_of(table) in subset and closed(table, set(subset))]
    return tuple(sorted(found))


def cosets(table, subset, left):
    every = range(len(table))
    rows = {tuple(sorted(table[x][h] if left else table[h][x] for h in subset)) for x in every}
    return tuple(sorted(rows))


def drawn_subsets(table, draw):
    """Subsets of few and of many elements, the empty one, some that are subgroups."""
    n = len(table)
    found = [(), tuple(range(n)), (neutral_of(table),)]
    for _ in range(6):
        found.append(tuple(sorted(draw.sample(range(n), draw.randrange(n + 1)))))
        few = tuple(sorted(draw.sample(range(n), draw.randrange(min(n, 3) + 1))))
        found += [few, least_subgroup(table, few[:1]), least_subgroup(table, few)]
    return found


def no_subsets(n):
    """Values that are no subset of the elements below n."""
    found = [[], [0], (n,), (-1,), (0, 0), (0, n), (-1, 0), ((0,),), ((),), (0, None), (10 ** 30,), (Share(0, 1),)]
    found += [(value,) for value in NO_INTEGERS] + list(NO_SEQUENCES) + list(NO_INTEGERS[:8])
    if n > 2:
        found += [(1, 0), (0, 2, 1), (0, 1, 1), (2, 0), (0, True), (False, 1), (0, 1.0), [0, 1], (0, 1, n), (n - 1, 0)]
    return [value for value in found if value != ()]


class SubsetsTest(unittest.TestCase):
    def test_generated_and_is_subgroup(self):
        draw = drawing(31)
        for table in tables():
            group = Group(table)
            for subset in drawn_subsets(table, draw):
                told = least_subgroup(table, subset)
                for _ in range(2):
                    self.assertEqual(generated(group, subset=subset), told)
                    self.assertIs(is_subgroup(group, subset=subset), told == subset)
                self.assertIs(is_subgroup(group, told), True)
                self.assertEqual(len(table) % len(told), 0)

    def test_all_subsets_of_small_groups(self):
        for table in small_tables(8):
            group = Group(table)
            n = len(table)
            for size in range(n + 1):
                for subset in itertools.combinations(range(n), size):
                    self.assertEqual(generated(group, subset), least_subgroup(table, subset))
                    told = neutral_of(table) in subset and closed(table, subset)
                    self.assertIs(is_subgroup(group, subset), told)

    def test_empty_subset(self):
        for table in tables():
            self.assertEqual(generated(Group(table), ()), (neutral_of(table),))
            self.assertIs(is_subgroup(Group(table), ()), False)

    def test_generators(self):
        for table in tables():
            n = len(table)
            chosen = ()
            while len(least_subgroup(table, chosen)) < n:
                chosen += (min(set(range(n)) - set(least_subgroup(table, chosen))),)
            for _ in range(2):
                self.assertEqual(generators(Group(table)), chosen)
        self.assertEqual(generators(Group(cyclic(1))), ())
        self.assertEqual(generators(Group(cyclic(12))), (1,))
        self.assertEqual(generators(Group(words(2, 2, 2))), (1, 2, 4))

    def test_subgroups(self):
        for table in small_tables(12):
            for _ in range(2):
                self.assertEqual(subgroups(Group(table)), every_subgroup(table))

    def test_subgroups_of_larger_groups(self):
        for table, count in ((permutations(4), 30), (words(2, 2, 2, 2), 67), (cyclic(24), 8), (even_permutations(4), 10),
                             (both(turns(6), cyclic(2)), 54), (turns(12), 34), (both(quaternions(), cyclic(3)), 12)):
            found = subgroups(Group(table))
            self.assertIs(type(found), tuple)
            self.assertEqual(len(found), count)
            self.assertEqual(list(found), sorted(set(found)))
            for subset in found:
                self.assertIs(type(subset), tuple)
                self.assertEqual(subset, least_subgroup(table, subset))
                self.assertEqual(len(table) % len(subset), 0)

    def test_subgroups_of_too_many_elements(self):
        for table in tables() + [cyclic(25), cyclic(26)]:
            if len(table) > 24:
                for _ in range(2):
                    self.assertEqual(raised(TooMany, subgroups, Group(table)).what, "elements")
            elif len(table) == 24:
                self.assertIn(tuple(range(24)), subgroups(Group(table)))

    def test_no_subsets(self):
        calls = (generated, is_subgroup, left_cosets, right_cosets, is_normal, factor_group)
        for table in (cyclic(1), cyclic(6), permutations(3), cyclic(48)):
            group = Group(table)
            for call in calls:
                for value in no_subsets(len(table)):
                    for _ in range(2):
                        self.assertIs(raised(InvalidSubset, call, group, value).value, value)

    def test_the_group_stays(self):
        group = Group(permutations(3))
        for call in (generated, is_subgroup, left_cosets, right_cosets, is_normal, factor_group):
            call(group, tuple(range(6)))
        subgroups(group)
        generators(group)
        self.assertEqual(group, Group(permutations(3)))


class CosetsTest(unittest.TestCase):
    def test_cosets_of_drawn_subsets(self):
        draw = drawing(32)
        met = set()
        for table in tables():
            group = Group(table)
            for subset in drawn_subsets(table, draw):
                if least_subgroup(table, subset) == subset:
                    met.add(self.check_subgroup(table, group, subset))
                else:
                    for call in (left_cosets, right_cosets, is_normal, factor_group):
                        for _ in range(2):
                            self.assertEqual(raised(Undefined, call, group, subset).what, "subgroup")
        self.assertEqual(met, {True, False})

    def test_cosets_of_all_subgroups(self):
        for table in small_tables(12) + [permutations(4)]:
            group = Group(table)
            for subset in subgroups(group):
                self.check_subgroup(table, group, subset)

    def check_subgroup(self, table, group, subset):
        left, right = cosets(table, subset, True), cosets(table, subset, False)
        for _ in range(2):
            self.assertEqual(left_cosets(group, subset=subset), left)
            self.assertEqual(right_cosets(group, subset=subset), right)
            self.assertIs(is_normal(group, subset=subset), left == right)
            if left == right:
                self.check_factor(table, left, factor_group(group, subset=subset))
            else:
                self.assertEqual(raised(Undefined, factor_group, group, subset).what, "normal")
        self.assertEqual({type(coset) for coset in left_cosets(group, subset)}, {tuple})
        self.assertEqual(len(left) * len(subset), len(table))
        return left == right

    def check_factor(self, table, left, factor):
        self.assertIs(type(factor), Group)
        self.assertEqual(factor.size, len(left))
        for i, one in enumerate(left):
            for j, other in enumerate(left):
                held = left[factor.product(i, j)]
                self.assertTrue(all(table[x][y] in held for x in one for y in other))

    def test_plain_cosets(self):
        group = Group(permutations(3))
        # 1 is (0, 2, 1), 2 is (1, 0, 2), 3 is (1, 2, 0) and 4 is (2, 0, 1).
        self.assertEqual(left_cosets(group, (0, 1)), ((0, 1), (2, 3), (4, 5)))
        self.assertEqual(right_cosets(group, (0, 1)), ((0, 1), (2, 4), (3, 5)))
        self.assertIs(is_normal(group, (0, 1)), False)
        self.assertIs(is_normal(group, (0, 3, 4)), True)
        self.assertEqual(factor_group(group, (0, 3, 4)).table, ((0, 1), (1, 0)))
        self.assertEqual(left_cosets(Group(cyclic(6)), (0, 3)), ((0, 3), (1, 4), (2, 5)))
        self.assertEqual(factor_group(Group(cyclic(6)), (0, 3)).table, cyclic(3))

    def test_tuples_are_returned(self):
        group = Group(cyclic(4))
        for value in (generated(group, (2,)), generators(group), subgroups(group), left_cosets(group, (0, 2)),
                      right_cosets(group, (0, 2))):
            self.assertIs(type(value), tuple)
