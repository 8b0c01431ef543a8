"""What a grouping is, and how its things and groups stand to each other."""

MOST_THINGS = 60


def is_whole(value):
    """Whether something of any kind is a whole number."""
    # Python counts True and False among the integers; here they are no numbers.
    return isinstance(value, int) and not isinstance(value, bool)


def is_counted(value, many):
    """Whether something of any kind is one of 0, 1, 2 and so on to one less than so many."""
    return is_whole(value) and 0 <= value < many


def all_counted(values, many):
    """Whether something of any kind is a list of none but 0, 1, 2 and so on to one less than so many."""
    return isinstance(values, list) and all(is_counted(value, many) for value in values)


def rises(numbers):
    """Whether each number of a list is greater than the one before it."""
    return all(low < high for low, high in zip(numbers, numbers[1:]))


def all_things(grouping):
    """The things of a grouping, group by group."""
    return [thing for group in grouping for thing in group]


def is_group(value):
    """Whether something of any kind can be a group of a grouping."""
    return all_counted(value, MOST_THINGS) and len(value) > 0 and rises(value)


def is_grouping(value):
    """Whether something of any kind is a grouping."""
    if not isinstance(value, list) or not all(is_group(group) for group in value):
        return False
    things = sorted(all_things(value))
    # No group has a thing from 60 on, so things that are 0, 1, 2 and so on are at most 60.
    return things == list(range(len(things))) and rises([group[0] for group in value])


def group_of(grouping, thing):
    """The count of the group that has the thing, or None if no group has it."""
    for count, group in enumerate(grouping):
        if thing in group:
            return count
    return None


def together(grouping, first, second):
    """Whether one group has both things."""
    return any(first in group and second in group for group in grouping)


def in_common(group, things):
    """How many things of the group are among the things."""
    return len([thing for thing in group if thing in things])
