import unittest

from sevenninths.errors import InvalidGroup, InvalidNumber
from sevenninths.groups import Group
from sevenninths.shares import Share
from tests.helper import (NO_INTEGERS, NO_SEQUENCES, cyclic, drawing, neutral_of, permutations, quaternions, raised,
                          small_tables, tables, turns, words)


def is_member(value, n):
    return type(value) is int and 0 <= value < n


def is_row(row, n):
    return isinstance(row, (list, tuple)) and len(row) == n and all(is_member(value, n) for value in row)


def first_fault(table):
    """What is wrong first with a table, by the words of the document; None if it is a group's."""
    if not isinstance(table, (list, tuple)) or not 1 <= len(table) <= 48:
        return "table", 0
    n = len(table)
    every = range(n)
    for x in every:
        if not is_row(table[x], n):
            return "row", x
    neutral = [e for e in every if all(table[e][x] == table[x][e] == x for x in every)]
    if not neutral:
        return "neutral", 0
    for x in every:
        if not any(table[x][y] == table[y][x] == neutral[0] for y in every):
            return "inverse", x
    for x in every:
        for y in every:
            for z in every:
                if table[table[x][y]][z] != table[x][table[y][z]]:
                    return "product", (x, y, z)
    return None


def lists(table):
    return [list(row) for row in table]


class JudgedTest(unittest.TestCase):
    def test_groups(self):
        for table in tables():
            n = len(table)
            group = Group(table)
            for _ in range(2):
                self.assertEqual(group.size, n)
                self.assertEqual(group.table, table)
                self.assertEqual(group.neutral, neutral_of(table))
                self.assertIs(group.commutative, all(table[x][y] == table[y][x] for x in range(n) for y in range(n)))
                self.assertEqual([[group.product(x, y) for y in range(n)] for x in range(n)], lists(table))

    def test_commutative(self):
        self.assertIs(Group(cyclic(7)).commutative, True)
        self.assertIs(Group(permutations(3)).commutative, False)
        self.assertIs(Group([[0]]).commutative, True)

    def test_later_changes_of_the_rows(self):
        for table in tables():
            rows = lists(table)
            mixed = [row if place % 2 else tuple(row) for place, row in enumerate(rows)]
            groups = [Group(rows), Group(tuple(rows)), Group(mixed), Group(table=rows)]
            for row in rows:
                row[0] = "changed"
                row.append(0)
            rows.append([])
            mixed.pop()
            for group in groups:
                self.assertEqual(group.table, table)
                self.assertIs(type(group.table), tuple)
                self.assertEqual({type(row) for row in group.table}, {tuple})
                self.assertEqual(group.product(group.neutral, 0), 0)

    def test_the_table_that_is_passed_stays(self):
        rows = lists(quaternions())
        Group(rows)
        self.assertEqual(rows, lists(quaternions()))

    def test_equal(self):
        drawn = small_tables(12)
        for table in drawn:
            for other in drawn:
                self.assertIs(Group(table) == Group(lists(other)), table == other)
                self.assertIs(Group(table) != Group(lists(other)), table != other)
        for other in NO_INTEGERS + NO_SEQUENCES + (cyclic(2), lists(cyclic(2)), Share(1, 1), Group):
            for _ in range(2):
                self.assertIs(Group(cyclic(2)) == other, False)
                self.assertIs(other == Group(cyclic(2)), False)
                self.assertIs(Group(cyclic(2)) != other, True)


class FaultsTest(unittest.TestCase):
    def check(self, table):
        told = first_fault(table)
        for _ in range(2):
            if told is None:
                self.assertEqual(Group(table).table, tuple(tuple(row) for row in table))
            else:
                error = raised(InvalidGroup, Group, table)
                self.assertEqual((error.part, error.place), told)
        return told and told[0]

    def test_no_tables(self):
        for wrong in NO_SEQUENCES + ([], ()):
            self.assertEqual(self.check(wrong), "table")
        self.assertEqual(self.check(cyclic(49)), "table")
        self.assertEqual(self.check([[0]] * 49), "table")
        self.assertEqual(self.check([None] * 49), "table")

    def test_largest_and_smallest(self):
        self.assertIsNone(self.check(cyclic(48)))
        self.assertIsNone(self.check(lists(cyclic(47))))
        self.assertIsNone(self.check([[0]]))
        self.assertEqual(self.check([[1]]), "row")
        self.assertEqual(self.check([[]]), "row")
        self.assertEqual(self.check([[0, 0]]), "row")

    def test_rows_of_other_values(self):
        draw = drawing(11)
        for table in tables():
            for wrong in NO_SEQUENCES + ((), [], table[0] + (0,), list(table[0])[:-1], "0" * len(table)):
                rows = lists(table)
                rows[draw.randrange(len(rows))] = wrong
                self.assertEqual(self.check(rows), "row")

    def test_entries_of_other_values(self):
        draw = drawing(12)
        for table in tables():
            n = len(table)
            for wrong in NO_INTEGERS + (-1, n, n + 1, -n, 10 ** 30, -10 ** 30, Share(0, 1)):
                rows = lists(table)
                rows[draw.randrange(n)][draw.randrange(n)] = wrong
                self.assertEqual(self.check(rows), "row")

    def test_the_first_of_two_wrong_rows(self):
        for first in range(4):
            for second in range(4):
                rows = lists(words(2, 2))
                rows[first] = None
                rows[second] = [0, 1, 2, 4]
                error = raised(InvalidGroup, Group, rows)
                self.assertEqual((error.part, error.place), ("row", min(first, second)))

    def test_rows_missing_or_twice(self):
        draw = drawing(13)
        for table in tables():
            n = len(table)
            place, other = draw.randrange(n), draw.randrange(n)
            self.check(table[:place] + table[place + 1:])
            self.check(table + (table[place],))
            self.check(table[:place] + (table[other],) + table[place + 1:])

    def test_entries_changed(self):
        draw = drawing(14)
        found = {}
        for table in small_tables(12) + [cyclic(24), turns(12)]:
            n = len(table)
            for _ in range(30):
                rows = lists(table)
                for _ in range(draw.choice((1, 1, 2, 3, n))):
                    rows[draw.randrange(n)][draw.randrange(n)] = draw.randrange(n)
                part = self.check(rows)
                found[part] = found.get(part, 0) + 1
        self.assertEqual(set(found), {None, "neutral", "inverse", "product"})
        self.assertGreaterEqual(min(found.values()), 20)

    def test_tables_of_any_entries(self):
        draw = drawing(15)
        for _ in range(600):
            n = draw.randrange(1, 5)
            rows = [[draw.randrange(n) for _ in range(n)] for _ in range(n)]
            self.check(rows)
            if draw.randrange(2):
                e = draw.randrange(n)
                for x in range(n):
                    rows[e][x] = rows[x][e] = x
                self.check(rows)

    def test_all_tables_of_two_and_many_of_three(self):
        for code in range(16):
            self.check([[code & 1, code >> 1 & 1], [code >> 2 & 1, code >> 3 & 1]])
        for code in range(0, 3 ** 9, 7):
            digits = [code // 3 ** place % 3 for place in range(9)]
            self.check([digits[:3], digits[3:6], digits[6:]])

    def test_one_sided_neutral_and_inverse(self):
        # A left neutral element and a right inverse alone do not do.
        self.assertEqual(self.check([[0, 1], [0, 1]]), "neutral")
        self.assertEqual(self.check([[0, 0], [1, 1]]), "neutral")
        rows = [[0, 1, 2], [1, 1, 0], [2, 2, 2]]
        error = raised(InvalidGroup, Group, rows)
        self.assertEqual((error.part, error.place), ("inverse", 1))
        self.check(rows)

    def test_inverses_without_brackets_that_may_move(self):
        rows = [[0, 1, 2], [1, 0, 1], [2, 1, 0]]
        error = raised(InvalidGroup, Group, rows)
        self.assertEqual((error.part, error.place), ("product", (1, 1, 2)))
        self.check(rows)


class AskedTest(unittest.TestCase):
    def wrong_members(self, n):
        return NO_INTEGERS + (-1, n, n + 1, 10 ** 30, -10 ** 30, Share(0, 1))

    def test_inverse_and_order(self):
        for table in tables():
            group = Group(table)
            e = neutral_of(table)
            for x in range(len(table)):
                powers = [x]
                while powers[-1] != e:
                    powers.append(table[powers[-1]][x])
                for _ in range(2):
                    self.assertEqual(group.order(x), len(powers))
                    self.assertEqual(table[x][group.inverse(x)], e)
                    self.assertEqual(table[group.inverse(x)][x], e)

    def test_power(self):
        draw = drawing(16)
        for table in small_tables(24):
            group = Group(table)
            e = neutral_of(table)
            for x in draw.sample(range(len(table)), min(6, len(table))):
                up = down = e
                back = next(y for y in range(len(table)) if table[x][y] == e)
                for k in range(30):
                    self.assertEqual(group.power(x, k), up)
                    self.assertEqual(group.power(x=x, k=-k), down)
                    up, down = table[up][x], table[down][back]

    def test_power_of_many_figures(self):
        draw = drawing(17)
        for table in tables():
            group = Group(table)
            x = draw.randrange(len(table))
            around = [neutral_of(table)]
            while len(around) == 1 or around[-1] != around[0]:
                around.append(table[around[-1]][x])
            around.pop()
            for k in [10 ** 30 - 1, 1 - 10 ** 30] + [draw.randrange(-10 ** 30, 10 ** 30) for _ in range(10)]:
                for _ in range(2):
                    self.assertEqual(group.power(x, k), around[k % len(around)])

    def test_what_is_no_element(self):
        for table in (cyclic(1), cyclic(6), permutations(3), cyclic(48)):
            group = Group(table)
            wrong = self.wrong_members(group.size)
            for x in wrong:
                for _ in range(2):
                    self.assertIs(raised(InvalidNumber, group.product, x, 0).value, x)
                    self.assertIs(raised(InvalidNumber, group.product, 0, x).value, x)
                    self.assertIs(raised(InvalidNumber, group.inverse, x).value, x)
                    self.assertIs(raised(InvalidNumber, group.order, x).value, x)
                    self.assertIs(raised(InvalidNumber, group.power, x, 2).value, x)
                for y in wrong:
                    self.assertIs(raised(InvalidNumber, group.product, x, y).value, x)
            for k in NO_INTEGERS + (Share(2, 1),):
                self.assertIs(raised(InvalidNumber, group.power, 0, k).value, k)
                for x in wrong:
                    self.assertIs(raised(InvalidNumber, group.power, x, k).value, x)

    def test_the_first_wrong_one_is_told(self):
        group = Group(cyclic(3))
        self.assertEqual(raised(InvalidNumber, group.product, 3, 4).value, 3)
        self.assertEqual(raised(InvalidNumber, group.product, y=5, x=2).value, 5)
        self.assertEqual(raised(InvalidNumber, group.power, 3, None).value, 3)
