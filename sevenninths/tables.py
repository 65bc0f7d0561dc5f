"""Matrices over a prime: products, ranks, and columns by which a told product is tested."""

from sevenninths.checks import is_number_row, require_prime
from sevenninths.errors import InvalidSubset, InvalidTable, Undefined

_MOST_PRIME = 13
_MOST_ROWS = 5


def require_table_prime(p):
    """Raise InvalidNumber unless p is a prime that matrices and tables for products can have."""
    require_prime(p, _MOST_PRIME)


def times(p, one, other):
    """The product of two matrices."""
    require_table_prime(p)
    _require_matrices(p, (one, other))
    _require_fitting(one, other)
    return _product(p, one, other)


def _require_matrices(p, values):
    """Raise InvalidTable with the first of the values that is no matrix."""
    for value in values:
        if not _is_matrix(p, value):
            raise InvalidTable(value)


def _is_matrix(p, value):
    """Whether value is a tuple of 1 to 5 tuples of 1 to 5 numbers below p, all of one length."""
    if not isinstance(value, tuple) or not 1 <= len(value) <= _MOST_ROWS:
        return False
    if not isinstance(value[0], tuple) or not 1 <= len(value[0]) <= _MOST_ROWS:
        return False
    return all([is_number_row(row, len(value[0]), p) for row in value])


def _require_fitting(one, other):
    """Raise Undefined unless the first matrix has as many columns as the second one has rows."""
    if len(one[0]) != len(other):
        raise Undefined("size")


def _product(p, one, other):
    """The product of two matrices that fit."""
    return tuple([tuple([_row_times(p, row, column) for column in zip(*other)]) for row in one])


def _row_times(p, row, column):
    """The sum of the products place by place, modulo p."""
    return sum([left * right for left, right in zip(row, column)]) % p


def rank(p, matrix):
    """How many rows of the matrix are left if those go that are sums of multiples of others."""
    require_table_prime(p)
    _require_matrices(p, (matrix,))
    return _rank(p, matrix)


def _rank(p, rows):
    """The rank of a matrix that is judged."""
    found = 0
    for place in range(len(rows[0])):
        heads = [row for row in rows if row[place] != 0]
        if heads:
            found += 1
            # The head itself becomes a row of zeros, so it is not taken again.
            rows = [_cleared(p, row, heads[0], place) for row in rows]
    return found


def _cleared(p, row, head, place):
    """A multiple of the row less a multiple of the head that has 0 at the place."""
    return [(head[place] * left - row[place] * right) % p for left, right in zip(row, head)]


def passes_column(p, one, other, told, column):
    """Whether one times (other times the column) is told times the column."""
    _require_told(p, one, other, told)
    if not is_number_row(column, len(other[0]), p):
        raise InvalidSubset(column)
    return _applied(p, one, _applied(p, other, column)) == _applied(p, told, column)


def _require_told(p, one, other, told):
    """Raise what is told unless these are matrices, and told has the size of the product of the others."""
    require_table_prime(p)
    _require_matrices(p, (one, other, told))
    _require_fitting(one, other)
    if len(told) != len(one) or len(told[0]) != len(other[0]):
        raise Undefined("size")


def _applied(p, matrix, column):
    """The matrix times the column."""
    return [_row_times(p, row, column) for row in matrix]


def columns_passing(p, one, other, told):
    """How many columns pass."""
    _require_told(p, one, other, told)
    apart = [[(left - right) % p for left, right in zip(row, told_row)]
             for row, told_row in zip(_product(p, one, other), told)]
    # Those pass that the difference makes zeros, and the rank of it tells how many these are.
    count = 1
    for _ in range(len(other[0]) - _rank(p, apart)):
        count = count * p
    return count
