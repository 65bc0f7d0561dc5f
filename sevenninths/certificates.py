"""Certificates that show all homomorphisms of two groups, and the check of such ones."""

from sevenninths.checks import is_map, is_member_row, is_within
from sevenninths.homs import MOST_ROWS, is_hom, value_rows
from sevenninths.subsets import generators


def homs_certificate(one, other):
    """For each row of values for generators(one) the homomorphism that has them, or two words that clash."""
    rows = value_rows(one, other, MOST_ROWS)
    steps = _steps(one)
    words = _words(one, steps)
    return tuple([_shown(one, other, steps, words, row) for row in rows])


def _steps(one):
    """All (x, place, xy), y being the generator at the place; each x but the neutral one was an xy before."""
    chosen = generators(one)
    steps = []
    reached = [one.neutral]
    done = 0
    while done < len(reached):
        x = reached[done]
        done += 1
        for place, y in enumerate(chosen):
            xy = one.table[x][y]
            steps.append((x, place, xy))
            if xy not in reached:
                reached.append(xy)
    return steps


def _words(one, steps):
    """For each element a word whose product it is, of fewer places than there are elements."""
    words = {one.neutral: ()}
    for x, place, xy in steps:
        if xy not in words:
            words[xy] = words[x] + (place,)
    return words


def _shown(one, other, steps, words, values):
    """The part of the certificate for one row of values."""
    f = {one.neutral: other.neutral}
    for x, place, xy in steps:
        told = other.table[f[x]][values[place]]
        # The first step to xy is the one that made its word, so f has the products of the words.
        if f.setdefault(xy, told) != told:
            return ("clash", values, (words[x] + (place,), words[xy]))
    return ("hom", values, tuple([f[x] for x in range(one.size)]))


def homs_certificate_holds(one, other, certificate):
    """Whether the value, of any kind, is a certificate of all homomorphisms of (one, other)."""
    rows = value_rows(one, other, MOST_ROWS)
    if not isinstance(certificate, tuple) or len(certificate) != len(rows):
        return False
    chosen = generators(one)
    for part, row in zip(certificate, rows):
        if not _part_holds(one, other, chosen, part, row):
            return False
    return True


def _part_holds(one, other, chosen, part, row):
    """Whether the value, of any kind, is a right part of a certificate for this row of values."""
    if not isinstance(part, tuple) or len(part) != 3:
        return False
    kind, values, shown = part
    if not isinstance(kind, str) or not is_member_row(other, values, len(row)) or values != row:
        return False
    if kind == "hom":
        return _is_hom_of_row(one, other, chosen, shown, row)
    return kind == "clash" and _is_clash(one, other, chosen, shown, row)


def _is_hom_of_row(one, other, chosen, f, row):
    """Whether the value, of any kind, is the homomorphism that has the row at the generators."""
    if not is_map(one, other, f) or tuple([f[x] for x in chosen]) != row:
        return False
    return is_hom(one, other, f)


def _is_clash(one, other, chosen, pair, row):
    """Whether the value, of any kind, is two words of one product in one, of unlike ones in other."""
    if not isinstance(pair, tuple) or len(pair) != 2:
        return False
    if not all([_is_word(one, chosen, word) for word in pair]):
        return False
    first, second = pair
    if _word_product(one, chosen, first) != _word_product(one, chosen, second):
        return False
    return _word_product(other, row, first) != _word_product(other, row, second)


def _is_word(one, chosen, word):
    """Whether the value, of any kind, is a word that is short enough for a certificate."""
    if not isinstance(word, tuple) or len(word) > one.size + 1:
        return False
    return all([is_within(place, 0, len(chosen) - 1) for place in word])


def _word_product(group, factors, word):
    """The product of the factors at the places of the word, from the left."""
    reached = group.neutral
    for place in word:
        reached = group.table[reached][factors[place]]
    return reached
