"""Refusing what is handed in and is not what is asked for."""

from groupings.errors import BadCount, BadGrouping, BadThing, Unlike
from groupings.groups import MOST_THINGS, how_many_things, is_counted, is_grouping, is_whole

# No refusal tells the value itself: Python fails to write out what is nested too deep or has too many digits.


def check_grouping(value):
    """Refuse what is no grouping."""
    if not is_grouping(value):
        raise BadGrouping("this is no grouping")


def check_alike(one, other):
    """Refuse what are no two groupings of as many things."""
    check_grouping(one)
    check_grouping(other)
    if how_many_things(one) != how_many_things(other):
        raise Unlike("the two groupings have other counts of things")


def check_thing(value, grouping):
    """Refuse what is no thing of the grouping."""
    if not is_counted(value, how_many_things(grouping)):
        raise BadThing("this is no thing of the groupings")


def check_things(value):
    """Refuse what is no count of the things of a grouping."""
    if not is_counted(value, MOST_THINGS + 1):
        raise BadCount(f"things are counted by a whole number from 0 to {MOST_THINGS}")


def check_groups(value):
    """Refuse what is no count of groups, however many."""
    if not is_whole(value) or value < 0:
        raise BadCount("groups are counted by a whole number from 0 on")
