"""What a grouping is, and how its things and groups stand to each other."""

MOST_THINGS = 60


def is_whole(value):
    """Whether something of any kind is a whole number."""
    # Python counts True and False among the integers; here they are no numbers.
    return isinstance(value, int) and not isinstance(value, bool)


def is_counted(value, many):
    """Whether something of any kind is one of 0, 1, 2 and so on to one less than so many."""
    return is_whole(value) and 0 <= value < many


def all_counted(values, many):
    """Whether something of any kind is a list of none but 0, 1, 2 and so on to one less than so many."""
    return isinstance(values, list) and all(is_counted(value, many) for value in values)


def rises(numbers):
    """Whether each number of a list is greater than the one before it."""
    return all(low < high for low, high in zip(numbers, numbers[1:]))


def all_things(grouping):
    """The things of a grouping, group by group."""
    return [thing for group in grouping for thing in group]


def how_many_things(grouping):
    """How many things a grouping has."""
    return sum(len(group) for group in grouping)


def is_short_list(value):
    """Whether something of any kind is a list that is no longer than there can be things."""
    return isinstance(value, list) and len(value) <= MOST_THINGS


def is_group(value):
    """Whether something of any kind can be a group of a grouping."""
    return is_short_list(value) and len(value) > 0 and all_counted(value, MOST_THINGS) and rises(value)


def is_grouping(value):
    """Whether something of any kind is a grouping."""
    # Asked first, so that a list that is far too long is told at once.
    if not is_short_list(value) or not all(is_group(group) for group in value):
        return False
    things = sorted(all_things(value))
    # No group has a thing from 60 on, so things that are 0, 1, 2 and so on are at most 60.
    return things == list(range(len(things))) and rises([group[0] for group in value])


def group_of(grouping, thing):
    """The count of the group that has the thing, or None if no group has it."""
    for count, group in enumerate(grouping):
        if thing in group:
            return count
    return None


def homes_of(grouping):
    """For each thing, in turn, the count of the group that has it."""
    return [group_of(grouping, thing) for thing in range(how_many_things(grouping))]


def grouped_by(marks):
    """The grouping of as many things as there are marks, in which things are together if their marks are equal."""
    groups = {}
    for thing, mark in enumerate(marks):
        if mark not in groups:
            groups[mark] = []
        groups[mark].append(thing)
    return list(groups.values())


def together(grouping, first, second):
    """Whether one group has both things."""
    return any(first in group and second in group for group in grouping)


def in_common(group, things):
    """How many things of the group are among the things."""
    return len([thing for thing in group if thing in things])
