import itertools
import unittest

from sevenninths.errors import InvalidSubset, Undefined
from sevenninths.groups import Group
from sevenninths.quotients import coset_of, is_tight, left_quotients, right_quotients
from sevenninths.subsets import is_subgroup, subgroups
from tests.helper import drawing, neutral_of, raised, small_tables, tables
from tests.test_subsets import drawn_subsets, least_subgroup, no_subsets

CALLS = (left_quotients, right_quotients, is_tight, coset_of)


def plain_quotients(table, subset, left):
    """The products of an inverse and an element, or of an element and an inverse."""
    e = neutral_of(table)
    back = {a: table[a].index(e) for a in subset}
    if left:
        return tuple(sorted({table[back[a]][b] for a in subset for b in subset}))
    return tuple(sorted({table[a][back[b]] for a in subset for b in subset}))


def behind(table, groups, subset):
    """The subgroups with a right coset in which the subset lies with more than two thirds of its elements."""
    found = []
    for held in groups:
        coset = {table[h][subset[0]] for h in held}
        if set(subset) <= coset and 3 * len(subset) > 2 * len(held):
            found.append(held)
    return found


def parts_of_cosets(table, draw):
    """Right and left cosets of subgroups, with none, some and too many elements left out."""
    n = len(table)
    found = []
    for _ in range(6):
        held = least_subgroup(table, draw.sample(range(n), min(n, draw.randrange(3))))
        x = draw.randrange(n)
        for coset in ([table[h][x] for h in held], [table[x][h] for h in held]):
            for size in {len(held), 2 * len(held) // 3 + 1, 2 * len(held) // 3, draw.randrange(len(held)) + 1} - {0}:
                found.append(tuple(sorted(draw.sample(coset, size))))
    return found


class QuotientsTest(unittest.TestCase):
    def check(self, group, groups, subset):
        table = group.table
        left, right = plain_quotients(table, subset, True), plain_quotients(table, subset, False)
        tight = 2 * len(left) < 3 * len(subset)
        for _ in range(2):
            self.assertEqual(left_quotients(group, subset=subset), left)
            self.assertEqual(right_quotients(group, subset=subset), right)
            self.assertIs(is_tight(group, subset=subset), tight)
        self.assertEqual((type(left_quotients(group, subset)), type(right_quotients(group, subset))), (tuple, tuple))
        if tight:
            self.assertEqual(coset_of(group, subset=subset), (right, subset[0]))
            self.assertTrue(is_subgroup(group, left) and is_subgroup(group, right))
            self.assertEqual(len(left), len(right))
        else:
            self.assertEqual(raised(Undefined, coset_of, group, subset).what, "subgroup")
        if groups is not None:
            self.assertEqual(behind(table, groups, subset), [right] if tight else [])
        return tight

    def test_all_subsets_of_small_groups(self):
        met = {True: 0, False: 0}
        for table in small_tables(8):
            group = Group(table)
            groups = subgroups(group)
            for size in range(1, len(table) + 1):
                for subset in itertools.combinations(range(len(table)), size):
                    if len(table) < 8 or sum(subset) % 2 == 0:
                        met[self.check(group, groups, subset)] += 1
        self.assertGreater(min(met.values()), 200)

    def test_cosets_with_elements_left_out(self):
        draw = drawing(171)
        met = {True: 0, False: 0}
        for table in tables():
            group = Group(table)
            groups = subgroups(group) if len(table) <= 24 else None
            for subset in parts_of_cosets(table, draw) + [row for row in drawn_subsets(table, draw) if row]:
                met[self.check(group, groups, subset)] += 1
        self.assertGreater(min(met.values()), 200)

    def test_subgroups_single_elements_and_all(self):
        for table in tables():
            group = Group(table)
            n = len(table)
            everything = tuple(range(n))
            for x in {0, n // 2, n - 1}:
                self.assertEqual(coset_of(group=group, subset=(x,)), ((neutral_of(table),), x))
            self.assertEqual(coset_of(group, everything), (everything, 0))
            for held in subgroups(group) if n <= 12 else ():
                self.assertEqual(coset_of(group, held), (held, held[0]))
                self.assertEqual((left_quotients(group, held), right_quotients(group, held)), (held, held))

    def test_just_two_thirds(self):
        # Two of the three elements of a coset are just two thirds, as six of all nine are; seven are more.
        nine = Group(next(table for table in tables() if len(table) == 9))
        groups = subgroups(nine)
        for size in range(1, 10):
            for subset in itertools.combinations(range(9), size):
                held = [h for h in groups if set(subset) <= {nine.product(x, subset[0]) for x in h}]
                told = [h for h in held if 3 * size > 2 * len(h)]
                self.assertIs(is_tight(nine, subset), bool(told))
                self.assertIs(size in (1, 7, 8, 9) or size == 3 and min(len(h) for h in held) == 3, bool(told))
                if told:
                    self.assertEqual(coset_of(nine, subset), (told[0], subset[0]))

    def test_shown_ones(self):
        six = Group(next(table for table in tables() if len(table) == 6 and table[1][2] != table[2][1]))
        self.assertEqual(left_quotients(six, (1, 2)), (0, 3, 4))
        twelve = Group(next(table for table in tables() if len(table) == 12))
        self.assertEqual(left_quotients(twelve, (1, 5, 9)), (0, 4, 8))
        self.assertEqual(coset_of(twelve, (1, 5, 9)), ((0, 4, 8), 1))
        self.assertIs(is_tight(twelve, (1, 5)), False)
        self.assertEqual(right_quotients(twelve, (1, 5)), (0, 4, 8))
        self.assertEqual(coset_of(twelve, (3, 5, 7, 9, 11)), ((0, 2, 4, 6, 8, 10), 3))
        self.assertEqual(raised(Undefined, coset_of, twelve, (3, 5, 7, 9)).what, "subgroup")


class WrongTest(unittest.TestCase):
    def test_no_subsets(self):
        for table in small_tables(6) + [tables()[14]]:
            group = Group(table)
            for value in no_subsets(len(table)) + [()]:
                for call in CALLS:
                    for _ in range(2):
                        self.assertIs(raised(InvalidSubset, call, group, value).value, value)

    def test_a_wrong_subset_is_told_first(self):
        group = Group(small_tables(6)[5])
        for value in ((), [0, 1], (1, 0), (0, 0), (0, True), (0, 1, 99)):
            self.assertIs(raised(InvalidSubset, coset_of, group, subset=value).value, value)
        self.assertEqual(raised(Undefined, coset_of, group, subset=(0, 1)).what, "subgroup")
