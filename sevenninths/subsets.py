"""Subsets of groups: what they generate, subgroups, their cosets and factor groups."""

from sevenninths.checks import require_subset
from sevenninths.errors import TooMany, Undefined
from sevenninths.groups import Group

_MOST_SEARCHED = 24


def generated(group, subset):
    """The least subgroup that holds the subset."""
    require_subset(group, subset)
    return _closure(group, subset)


def _closure(group, members):
    """The subgroup of all products of the members, rising."""
    held = [False] * group.size
    held[group.neutral] = True
    fresh = [group.neutral]
    # In a finite group inverses are powers, so products from the right by the members reach all.
    while fresh:
        row = group.table[fresh.pop()]
        for y in members:
            if not held[row[y]]:
                held[row[y]] = True
                fresh.append(row[y])
    return tuple([x for x in range(group.size) if held[x]])


def is_subgroup(group, subset):
    """Whether the subset holds the neutral element and all products of its elements."""
    require_subset(group, subset)
    return _closure(group, subset) == subset


def subgroups(group):
    """All subgroups of a group of at most 24 elements, ascending."""
    if group.size > _MOST_SEARCHED:
        raise TooMany("elements")
    least = (group.neutral,)
    found = {least: True}
    fresh = [least]
    # Each subgroup grows from the least one, an element at a time.
    while fresh:
        smaller = fresh.pop()
        for x in range(group.size):
            larger = _closure(group, smaller + (x,))
            if larger not in found:
                found[larger] = True
                fresh.append(larger)
    return tuple(sorted(found))


def generators(group):
    """The subset that takes the least element that it does not generate, until it generates all."""
    chosen = []
    reached = _closure(group, chosen)
    while len(reached) < group.size:
        chosen.append(min([x for x in range(group.size) if x not in reached]))
        reached = _closure(group, chosen)
    return tuple(chosen)


def left_cosets(group, subset):
    """The subsets of all xh, h of a subgroup, ascending."""
    _require_subgroup(group, subset)
    return _ascending([[group.table[x][h] for h in subset] for x in range(group.size)])


def right_cosets(group, subset):
    """The subsets of all hx, h of a subgroup, ascending."""
    _require_subgroup(group, subset)
    return _ascending([[group.table[h][x] for h in subset] for x in range(group.size)])


def _require_subgroup(group, subset):
    """Raise what is told for a value that is no subset, or a subset that is no subgroup."""
    if not is_subgroup(group, subset):
        raise Undefined("subgroup")


def _ascending(rows):
    """The distinct rows as rising tuples, ascending."""
    return tuple(sorted({tuple(sorted(row)) for row in rows}))


def is_normal(group, subset):
    """Whether the left cosets of a subgroup are its right cosets."""
    return left_cosets(group, subset) == right_cosets(group, subset)


def factor_group(group, subset):
    """The group whose element i is the left coset at place i of a normal subgroup."""
    if not is_normal(group, subset):
        raise Undefined("normal")
    cosets = left_cosets(group, subset)
    places = {x: place for place, coset in enumerate(cosets) for x in coset}
    # Any element stands for its coset, since the subgroup is normal.
    heads = [coset[0] for coset in cosets]
    return Group([[places[group.table[x][y]] for y in heads] for x in heads])
