import itertools
import unittest

from sevenninths.errors import InvalidNumber, InvalidSubset, InvalidTable, Undefined
from sevenninths.shares import Share
from sevenninths.tables import columns_passing, passes_column, rank, times
from tests.helper import NO_INTEGERS, NO_SEQUENCES, drawing, raised

FIGURES = 10 ** 30 - 1
PRIMES = (2, 3, 5, 7, 11, 13)
NO_PRIMES = NO_INTEGERS + tuple(k for k in range(-13, 110) if k not in PRIMES) + (FIGURES, -FIGURES, Share(7, 1))
SIZES = list(itertools.product(range(1, 6), repeat=2))


def drawn(p, rows, columns, draw):
    return tuple(tuple(draw.randrange(p) for _ in range(columns)) for _ in range(rows))


def plain_times(p, one, other):
    return tuple(tuple(sum(one[i][k] * other[k][j] for k in range(len(other))) % p for j in range(len(other[0])))
                 for i in range(len(one)))


def minor(p, matrix, rows, columns):
    """The determinant of a part of the matrix, as the sum over all permutations."""
    if not rows:
        return 1
    return sum((-1) ** j * matrix[rows[0]][column] * minor(p, matrix, rows[1:], columns[:j] + columns[j + 1:])
               for j, column in enumerate(columns)) % p


def plain_rank(p, matrix):
    """The greatest number of rows and columns of a part whose determinant is not 0."""
    sizes = range(min(len(matrix), len(matrix[0])), 0, -1)
    return next((k for k in sizes for rows in itertools.combinations(range(len(matrix)), k)
                 for columns in itertools.combinations(range(len(matrix[0])), k) if minor(p, matrix, rows, columns)), 0)


def applied(p, matrix, column):
    return [sum(a * b for a, b in zip(row, column)) % p for row in matrix]


def passing(p, one, other, told):
    """All columns for which one times (other times the column) is told times the column."""
    columns = itertools.product(range(p), repeat=len(other[0]))
    return [column for column in columns
            if applied(p, one, applied(p, other, column)) == applied(p, told, column)]


def changed(p, matrix, count, draw):
    """The matrix with so many numbers changed."""
    rows = [list(row) for row in matrix]
    places = [(i, j) for i in range(len(rows)) for j in range(len(rows[0]))]
    for i, j in draw.sample(places, min(count, len(places))):
        rows[i][j] = (rows[i][j] + draw.randrange(1, p)) % p
    return tuple(tuple(row) for row in rows)


def cases(draw, most=None):
    """Products of matrices of all sizes, each with what is told: the product, or one with some numbers changed."""
    found = []
    for p in PRIMES:
        for inner, columns in SIZES:
            if most is None or p ** columns <= most:
                one, other = drawn(p, draw.randrange(1, 6), inner, draw), drawn(p, inner, columns, draw)
                told = plain_times(p, one, other)
                for count in (0, 1, draw.randrange(1, 6)):
                    found.append((p, one, other, changed(p, told, count, draw)))
                found.append((p, one, other, drawn(p, len(one), columns, draw)))
    return found


def no_matrices(p):
    """Values that are no tuple of 1 to 5 tuples of 1 to 5 numbers below p, all of one length."""
    found = [(), ((),), ((), ()), [(0,)], ([0],), ((0,), [0]), ((0,), ()), ((0, 0), (0,)), ((0,), (0, 0)), ((0,),) * 6,
             ((0,) * 6,), ((0,) * 6,) * 6, ((0,),) * 7, (0,), (0, 0), 0, ((0,), 0), (((0,),),), ("0",), ((0, 0), "00"),
             ((0, 0), (0, 0), (0,)), ((0,) * 5, (0,) * 4), {0: (0,)}, ((0,), None), (None,)]
    for value in NO_INTEGERS + (-1, p, p + 1, FIGURES, Share(0, 1), Share(1, 1)):
        found += [((value,),), ((0,), (value,)), ((0, value), (0, 0)), ((0,) * 5,) * 4 + ((0, 0, 0, 0, value),)]
    return found + list(NO_SEQUENCES) + list(NO_INTEGERS)


class TimesTest(unittest.TestCase):
    def test_all_sizes(self):
        draw = drawing(151)
        for p in PRIMES:
            for inner, columns in SIZES:
                for rows in range(1, 6):
                    one, other = drawn(p, rows, inner, draw), drawn(p, inner, columns, draw)
                    for _ in range(2):
                        self.assertEqual(times(p=p, one=one, other=other), plain_times(p, one, other))
                    self.assertEqual({type(row) for row in times(p, one, other)}, {tuple})

    def test_shown_ones(self):
        self.assertEqual(times(7, ((1, 2), (3, 4)), ((5, 6), (0, 1))), ((5, 1), (1, 1)))
        self.assertEqual(times(2, ((1, 1, 1),), ((1,), (1,), (1,))), ((1,),))
        self.assertEqual(times(13, ((12,), (1,)), ((12, 1),)), ((1, 12), (12, 1)))

    def test_sizes_that_do_not_fit(self):
        for rows, inner in SIZES:
            for other_rows, columns in SIZES:
                if inner != other_rows:
                    one, other = ((1,) * inner,) * rows, ((1,) * columns,) * other_rows
                    self.assertEqual(raised(Undefined, times, 3, one, other).what, "size")


class RankTest(unittest.TestCase):
    def test_against_minors(self):
        draw = drawing(152)
        met = set()
        for p in PRIMES:
            for rows, columns in SIZES:
                low = [plain_times(p, drawn(p, rows, inner, draw), drawn(p, inner, columns, draw))
                       for inner in (1, 2, 3, 4)]
                for matrix in [drawn(p, rows, columns, draw)] + low:
                    told = plain_rank(p, matrix)
                    for _ in range(2):
                        self.assertEqual(rank(p=p, matrix=matrix), told)
                    met.add((min(rows, columns), told))
        self.assertLessEqual({(k, j) for k in range(1, 6) for j in range(1, k + 1)}, met)

    def test_columns_that_make_zeros_alone(self):
        draw = drawing(153)
        for p in PRIMES:
            for rows, columns in SIZES:
                if p ** columns <= 700:
                    matrix = drawn(p, rows, columns, draw)
                    zeros = [column for column in itertools.product(range(p), repeat=columns)
                             if not any(applied(p, matrix, column))]
                    self.assertEqual(p ** (columns - rank(p, matrix)), len(zeros))

    def test_zeros_full_rank_and_multiples(self):
        for p in PRIMES:
            for rows, columns in SIZES:
                self.assertEqual(rank(p, ((0,) * columns,) * rows), 0)
                self.assertEqual(rank(p, ((p - 1,) * columns,) * rows), 1)
                multiples = tuple(tuple(i * (j + 1) % p for j in range(columns)) for i in range(rows))
                self.assertEqual(rank(p, multiples), 1 if rows > 1 else 0)
                unit = tuple(tuple(int(j == columns - 1 - i) for j in range(columns)) for i in range(rows))
                self.assertEqual(rank(p, unit), min(rows, columns))
        self.assertEqual([rank(p, ((1, 2 % p), (3 % p, 4 % p))) for p in PRIMES], [1, 2, 2, 2, 2, 2])
        self.assertEqual([rank(p, ((1, 2, 3), (4, 5, 6), (7, 8, 9))) for p in (11, 13)], [2, 2])
        self.assertEqual(rank(5, ((0, 0, 3), (0, 0, 1), (0, 2, 0))), 2)


class PassesTest(unittest.TestCase):
    def test_columns(self):
        draw = drawing(154)
        met = set()
        for p, one, other, told in cases(draw):
            for _ in range(3):
                column = tuple(draw.randrange(p) for _ in other[0])
                right = applied(p, one, applied(p, other, column)) == applied(p, told, column)
                for _ in range(2):
                    self.assertIs(passes_column(p=p, one=one, other=other, told=told, column=column), right)
                met.add(right)
            self.assertIs(passes_column(p, one, other, told, (0,) * len(other[0])), True)
        self.assertEqual(met, {True, False})

    def test_columns_that_pass_against_a_plain_count(self):
        draw = drawing(155)
        for p, one, other, told in cases(draw, 400):
            columns = passing(p, one, other, told)
            for _ in range(2):
                self.assertEqual(columns_passing(p=p, one=one, other=other, told=told), len(columns))
            for column in draw.choices(columns, k=3):
                self.assertIs(passes_column(p, one, other, told, column), True)

    def test_what_the_document_says_of_them(self):
        draw = drawing(156)
        for p, one, other, told in cases(draw):
            columns = len(other[0])
            apart = tuple(tuple((a - b) % p for a, b in zip(row, told_row))
                          for row, told_row in zip(plain_times(p, one, other), told))
            found = columns_passing(p, one, other, told)
            self.assertEqual(found, p ** (columns - rank(p, apart)))
            if told == times(p, one, other):
                self.assertEqual(found, p ** columns)
            else:
                self.assertLessEqual(found * p, p ** columns)

    def test_shown_ones(self):
        one, other = ((1, 2), (3, 4)), ((5, 6), (0, 1))
        self.assertEqual(columns_passing(7, one, other, ((5, 1), (1, 1))), 49)
        self.assertEqual(columns_passing(7, one, other, ((5, 1), (1, 2))), 7)
        self.assertEqual(columns_passing(7, one, other, ((6, 1), (1, 2))), 1)
        self.assertIs(passes_column(7, one, other, ((5, 1), (1, 2)), (3, 0)), True)
        self.assertIs(passes_column(7, one, other, ((5, 1), (1, 2)), (0, 1)), False)
        self.assertEqual(columns_passing(13, ((1,) * 5,) * 5, ((1,) * 5,) * 5, ((5,) * 5,) * 5), 13 ** 5)
        self.assertEqual(columns_passing(13, ((1,) * 5,) * 5, ((1,) * 5,) * 5, ((5,) * 5,) * 4 + ((5, 5, 5, 5, 4),)), 13 ** 4)
        unit = tuple(tuple(int(i == j) for j in range(5)) for i in range(5))
        self.assertEqual(columns_passing(13, unit, unit, ((0,) * 5,) * 5), 1)


class WrongTest(unittest.TestCase):
    def calls(self, p, one, other, told, column):
        return ((times, (p, one, other)), (rank, (p, one)), (columns_passing, (p, one, other, told)),
                (passes_column, (p, one, other, told, column)))

    def test_no_primes(self):
        for p in NO_PRIMES:
            for value in (((0,),), ((0, 0),), None, [[0]], ((0,) * 6,)):
                for call, given in self.calls(p, value, value, value, value):
                    for _ in range(2):
                        self.assertIs(raised(InvalidNumber, call, *given).value, p)

    def test_no_matrices(self):
        right, wide = ((0, 1), (1, 0)), ((0, 1, 0),)
        for p in PRIMES:
            for value in no_matrices(p):
                for other in (right, wide, value, None):
                    for call, given in self.calls(p, value, other, other, other):
                        self.assertIs(raised(InvalidTable, call, *given).value, value)
                for told in (right, wide, None):
                    # A matrix that is none is told ahead of sizes that do not fit.
                    for one in (right, wide):
                        for call, given in self.calls(p, one, value, told, None):
                            if call is not rank:
                                self.assertIs(raised(InvalidTable, call, *given).value, value)
                        for call, given in self.calls(p, one, right, value, told)[2:]:
                            self.assertIs(raised(InvalidTable, call, *given).value, value)

    def test_matrices_that_are_just_too_large(self):
        for p in PRIMES:
            for rows in range(8):
                for columns in range(8):
                    value = ((1,) * columns,) * rows
                    if 1 <= rows <= 5 and 1 <= columns <= 5:
                        self.assertEqual(rank(p, value), 1)
                    else:
                        self.assertIs(raised(InvalidTable, rank, p, value).value, value)

    def test_sizes(self):
        draw = drawing(157)
        for _ in range(300):
            p = draw.choice(PRIMES)
            one, other, told = [drawn(p, *draw.choice(SIZES), draw) for _ in range(3)]
            fit = len(one[0]) == len(other) and (len(told), len(told[0])) == (len(one), len(other[0]))
            for column in ((0,) * len(other[0]), None, (p,), []):
                for call, given in self.calls(p, one, other, told, column)[2:]:
                    if not fit:
                        self.assertEqual(raised(Undefined, call, *given).what, "size")

    def test_told_of_another_size(self):
        for rows, columns in SIZES:
            one, other = ((1, 2),) * rows, ((1,) * columns, (0,) * columns)
            for told_rows, told_columns in SIZES:
                told = ((1,) * told_columns,) * told_rows
                for call, given in self.calls(3, one, other, told, (0,) * columns)[2:]:
                    if (told_rows, told_columns) == (rows, columns):
                        self.assertIn(call(*given), (3 ** columns, True))
                    else:
                        self.assertEqual(raised(Undefined, call, *given).what, "size")

    def test_no_columns(self):
        for p in PRIMES:
            for count in range(1, 6):
                one, other, told = ((1,) * 2,) * 3, ((1,) * count,) * 2, ((0,) * count,) * 3
                column = (0,) * count
                wrong = [list(column), column + (0,), column[1:], (column,), (), "0" * count, tuple((x,) for x in column)]
                for value in NO_INTEGERS + (-1, p, p + 1, FIGURES, Share(0, 1)):
                    wrong += [(value,) + column[1:], column[1:] + (value,)]
                wrong += list(NO_SEQUENCES) + [value for value in NO_INTEGERS if value != (1,)]
                for value in wrong:
                    self.assertIs(raised(InvalidSubset, passes_column, p, one, other, told, column=value).value, value)
