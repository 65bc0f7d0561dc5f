"""How often samples tell what is right: exact shares among all rows of samples."""

from math import comb

from sevenninths.checks import is_within, require_member
from sevenninths.errors import InvalidNumber, TooMany, Undefined
from sevenninths.maps import broken_share, votes
from sevenninths.ninths import close_hom
from sevenninths.shares import Share

_MOST_SAMPLES = 15
_MOST_MARKS = 99


def right_share(one, other, f, x, k):
    """The share of the rows of k samples by which a Corrector answers at x what close_hom has."""
    right, shares = _judged_shares(one, other, f, x, k)
    return shares[right]


def wrong_share(one, other, f, x, k):
    """The share of the rows of k samples by which a Corrector answers at x something else."""
    right, shares = _judged_shares(one, other, f, x, k)
    return _total(shares) - shares[right]


def silent_share(one, other, f, x, k):
    """The share of the rows of k samples by which a Corrector answers None at x."""
    _, shares = _judged_shares(one, other, f, x, k)
    return 1 - _total(shares)


def _judged_shares(one, other, f, x, k):
    """What close_hom has at x, and for each element of other the share of the rows that answer it."""
    hom = close_hom(one, other, f)
    if hom is None:
        raise Undefined("hom")
    require_member(one, x)
    if not is_within(k, 1, _MOST_SAMPLES) or k % 2 == 0:
        raise InvalidNumber(k)
    shares = [_majority_share(count, one.size, k) for count in votes(one, other, f, x)]
    return hom[x], shares


def _majority_share(part, whole, k):
    """The share of the rows of k out of whole things in which more than half are from part of them."""
    # The place i of ways counts the rows, as long as they are by now, with i from the part.
    ways = [1]
    for _ in range(k):
        ways = [less * part + same * (whole - part) for less, same in zip([0] + ways, ways + [0])]
    return Share.of(sum(ways[k // 2 + 1:]), sum(ways))


def _total(shares):
    """The sum of the shares."""
    total = Share(0, 1)
    for share in shares:
        total = total + share
    return total


def passing_share(one, other, f, k):
    """The share of the rows of k pairs none of which is broken."""
    return (1 - broken_share(one, other, f)).power(k)


def samples_for(share):
    """The least odd number of marks, each right with 2/3, that have a right majority with this share at least."""
    # Each mark is one of three, two of which are right: of all rows of k marks, so many have a right majority.
    rows = 3
    right = 2
    for k in range(1, _MOST_MARKS + 1, 2):
        if right * share.bottom >= share.top * rows:
            return k
        # Two more marks, nine pairs, matter only where the right ones are one ahead or one behind: the first
        # is lost by one pair of the nine, the second is won by four of them. Half as many rows are one behind
        # as are one ahead; so on the whole one is won for each row that is one ahead.
        right = 9 * right + (comb(k, k // 2) << (k // 2 + 1))
        rows = 9 * rows
    raise TooMany("samples")
