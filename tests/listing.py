"""Groupings for the tests, listed by a way of their own."""

from itertools import chain, combinations


def all_groupings(many):
    """Each grouping of so many things, by putting the last thing into each group or alone."""
    if many == 0:
        return [[]]
    found = []
    for lesser in all_groupings(many - 1):
        for at in range(len(lesser)):
            found.append([group + [many - 1] * (at == k) for k, group in enumerate(lesser)])
        found.append([list(group) for group in lesser] + [[many - 1]])
    return found


def all_couples(many):
    """Each grouping of so many things beside each."""
    groupings = all_groupings(many)
    return [(one, other) for one in groupings for other in groupings]


def all_parts(values):
    """Each list of some of the values, in their order."""
    values = list(values)
    return [list(part) for part in chain.from_iterable(combinations(values, k) for k in range(len(values) + 1))]
