"""Fractions of integers, reckoned exactly."""

from math import gcd

from sevenninths.checks import is_whole, require_within
from sevenninths.errors import InvalidNumber

_MOST_FACTORS = 100


class Share:
    """A fraction in lowest terms; its bottom is from 1 on."""

    def __init__(self, top, bottom):
        if not is_whole(top):
            raise InvalidNumber(top)
        if not is_whole(bottom) or bottom < 1:
            raise InvalidNumber(bottom)
        common = gcd(top, bottom)
        self.top = top // common
        self.bottom = bottom // common

    @classmethod
    def of(cls, part, whole):
        """The share that part is of whole."""
        return cls(part, whole)

    def __eq__(self, other):
        if isinstance(other, Share):
            return self.top == other.top and self.bottom == other.bottom
        return is_whole(other) and self.bottom == 1 and self.top == other

    def __add__(self, other):
        share = _as_share(other)
        if share is None:
            return NotImplemented
        return Share(self.top * share.bottom + share.top * self.bottom, self.bottom * share.bottom)

    def __radd__(self, other):
        share = _as_share(other)
        if share is None:
            return NotImplemented
        return share + self

    def __sub__(self, other):
        share = _as_share(other)
        if share is None:
            return NotImplemented
        return Share(self.top * share.bottom - share.top * self.bottom, self.bottom * share.bottom)

    def __rsub__(self, other):
        share = _as_share(other)
        if share is None:
            return NotImplemented
        return share - self

    def __mul__(self, other):
        share = _as_share(other)
        if share is None:
            return NotImplemented
        return Share(self.top * share.top, self.bottom * share.bottom)

    def __rmul__(self, other):
        share = _as_share(other)
        if share is None:
            return NotImplemented
        return share * self

    def below(self, other):
        """Whether it is less than other, a Share or an integer."""
        share = _as_share(other)
        return self.top * share.bottom < share.top * self.bottom

    def power(self, k):
        """The product of k factors, each of which is this share."""
        require_within(k, 0, _MOST_FACTORS)
        top = 1
        bottom = 1
        for _ in range(k):
            top = top * self.top
            bottom = bottom * self.bottom
        return Share(top, bottom)

    def written(self):
        """The fraction as a text; a bottom of 1 is left out."""
        if self.bottom == 1:
            return str(self.top)
        return f"{self.top}/{self.bottom}"


def _as_share(value):
    """The Share that a Share or an integer is, or None for any other value."""
    if isinstance(value, Share):
        return value
    if is_whole(value):
        return Share(value, 1)
    return None
