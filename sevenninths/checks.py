"""The kinds of values that several modules ask for."""

from sevenninths.errors import InvalidMap, InvalidNumber, InvalidSubset


def is_whole(value):
    """Whether value is an integer; True and False are none."""
    return isinstance(value, int) and not isinstance(value, bool)


def is_within(value, least, most):
    """Whether value is an integer from least to most."""
    return is_whole(value) and least <= value <= most


def is_from(value, least):
    """Whether value is an integer from least on."""
    return is_whole(value) and value >= least


def is_prime(value, most):
    """Whether value is a prime that is most at most."""
    return is_within(value, 2, most) and all([value % part != 0 for part in range(2, value)])


def is_sequence(value):
    """Whether value is a tuple or a list."""
    return isinstance(value, (tuple, list))


def is_number_row(value, length, bound):
    """Whether value is a tuple of so many numbers below bound."""
    if not isinstance(value, tuple) or len(value) != length:
        return False
    return all([is_within(x, 0, bound - 1) for x in value])


def is_member(group, value):
    """Whether value is an element of the group."""
    return is_within(value, 0, group.size - 1)


def is_member_row(group, value, length):
    """Whether value is a tuple of so many elements of the group."""
    return is_number_row(value, length, group.size)


def is_subset(group, value):
    """Whether value is a rising tuple of elements of the group."""
    if not isinstance(value, tuple) or not is_member_row(group, value, len(value)):
        return False
    return all([value[place - 1] < value[place] for place in range(1, len(value))])


def is_map(one, other, value):
    """Whether value is a tuple of one.size elements of other."""
    return is_member_row(other, value, one.size)


def require_within(value, least, most):
    """Raise InvalidNumber unless value is an integer from least to most."""
    if not is_within(value, least, most):
        raise InvalidNumber(value)


def require_from(value, least):
    """Raise InvalidNumber unless value is an integer from least on."""
    if not is_from(value, least):
        raise InvalidNumber(value)


def require_prime(value, most):
    """Raise InvalidNumber unless value is a prime that is most at most."""
    if not is_prime(value, most):
        raise InvalidNumber(value)


def require_member(group, value):
    """Raise InvalidNumber unless value is an element of the group."""
    if not is_member(group, value):
        raise InvalidNumber(value)


def require_subset(group, value):
    """Raise InvalidSubset unless value is a subset of the group."""
    if not is_subset(group, value):
        raise InvalidSubset(value)


def require_map(one, other, value):
    """Raise InvalidMap unless value is a map of (one, other)."""
    if not is_map(one, other, value):
        raise InvalidMap(value)
