"""All groupings of so many things: how many there are, and each by its number.

Things are put into groups in turn, each into a group that is there, counted from 0, or into a new one. Groupings are
numbered by these counts, read like words by their letters: number 0 has all things together, the last each one alone.
"""

from groupings.checks import check_grouping, check_groups, check_things
from groupings.errors import BadNumber
from groupings.groups import grouped_by, homes_of, is_counted


def groupings(things):
    """How many groupings of so many things there are."""
    check_things(things)
    return ways_to_go_on(things)[things][0]


def with_groups(things, groups):
    """How many groupings of so many things have so many groups."""
    check_things(things)
    check_groups(groups)
    if groups > things:
        return 0
    row = [1]
    for many in range(1, things + 1):
        longer = row + [0]
        row = [0] + [count * longer[count] + longer[count - 1] for count in range(1, many + 1)]
    return row[groups]


def grouping_by(things, number):
    """The grouping of so many things that has the number."""
    check_things(things)
    ways = ways_to_go_on(things)
    if not is_counted(number, ways[things][0]):
        raise BadNumber("no grouping of so many things has this number")
    homes = []
    groups = 0
    rest = number
    for more in range(things - 1, -1, -1):
        each = ways[more][groups]
        home = min(rest // each, groups)
        homes.append(home)
        groups = max(groups, home + 1)
        rest -= home * each
    return grouped_by(homes)


def number_of(grouping):
    """The number of the grouping among all of as many things."""
    check_grouping(grouping)
    homes = homes_of(grouping)
    ways = ways_to_go_on(len(homes))
    number = 0
    groups = 0
    for thing, home in enumerate(homes):
        number += home * ways[len(homes) - 1 - thing][groups]
        groups = max(groups, home + 1)
    return number


def ways_to_go_on(things):
    """By how many things are still to come, and then by how many groups there are: the ways to put them into groups.

    Both together are at most so many things.
    """
    rows = [[1 for groups in range(things + 1)]]
    for more in range(1, things + 1):
        fewer = rows[-1]
        rows.append([groups * fewer[groups] + fewer[groups + 1] for groups in range(things - more + 1)])
    return rows
