"""Groupings for the tests, listed by a way of their own."""

from itertools import chain, combinations, permutations


def all_groupings(many):
    """Each grouping of so many things, by putting the last thing into each group or alone."""
    if many == 0:
        return [[]]
    found = []
    for lesser in all_groupings(many - 1):
        for at in range(len(lesser)):
            found.append([group + [many - 1] * (at == k) for k, group in enumerate(lesser)])
        found.append([list(group) for group in lesser] + [[many - 1]])
    return found


def all_couples(many):
    """Each grouping of so many things beside each."""
    groupings = all_groupings(many)
    return [(one, other) for one in groupings for other in groupings]


def all_parts(values):
    """Each list of some of the values, in their order."""
    values = list(values)
    return [list(part) for part in chain.from_iterable(combinations(values, k) for k in range(len(values) + 1))]


def grouping_of(marks):
    """The grouping in which things are together if they are marked alike."""
    kinds = sorted(set(marks), key=marks.index)
    return [[thing for thing, mark in enumerate(marks) if mark == kind] for kind in kinds]


def sixty():
    """Groupings of 60 things: all together, each alone, few groups, many groups, even and uneven ones."""
    things = range(60)
    found = [grouping_of([0] * 60), grouping_of(list(things))]
    for many in (2, 3, 5, 7, 11, 20, 30, 45, 59):
        found.append(grouping_of([thing % many for thing in things]))
        found.append(grouping_of([thing * many // 60 for thing in things]))
        found.append(grouping_of([thing * thing * 7 % 61 % many for thing in things]))
    found.append(grouping_of([thing.bit_length() for thing in things]))
    found.append(grouping_of([(thing + 1) // 2 for thing in things]))
    found.append(grouping_of([max(thing, 40) for thing in things]))
    return found


def most_that_stay(one, other):
    """As many things as stay by the best of all pairings, tried one by one."""
    if len(one) > len(other):
        return most_that_stay(other, one)
    common = [[len(set(group) & set(faced)) for faced in other] for group in one]
    orders = permutations(range(len(other)), len(one))
    return max(sum(common[at][to] for at, to in enumerate(order)) for order in orders)
