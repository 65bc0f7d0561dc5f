"""The kinds of values that several modules ask for."""

from sevenninths.errors import InvalidNumber


def is_whole(value):
    """Whether value is an integer; True and False are none."""
    return isinstance(value, int) and not isinstance(value, bool)


def is_within(value, least, most):
    """Whether value is an integer from least to most."""
    return is_whole(value) and least <= value <= most


def is_sequence(value):
    """Whether value is a tuple or a list."""
    return isinstance(value, (tuple, list))


def is_member(group, value):
    """Whether value is an element of the group."""
    return is_within(value, 0, group.size - 1)


def require_within(value, least, most):
    """Raise InvalidNumber unless value is an integer from least to most."""
    if not is_within(value, least, most):
        raise InvalidNumber(value)


def require_member(group, value):
    """Raise InvalidNumber unless value is an element of the group."""
    if not is_member(group, value):
        raise InvalidNumber(value)
