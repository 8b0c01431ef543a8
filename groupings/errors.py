"""The refusals of the package."""


class GroupError(ValueError):
    """What was handed in is refused."""


class BadGrouping(GroupError):
    """It is no grouping."""


class BadThing(GroupError):
    """It is no thing of the groupings."""


class BadCount(GroupError):
    """It is no count of things or of groups."""


class BadNumber(GroupError):
    """It is the number of no grouping."""


class Unlike(GroupError):
    """Two groupings have other counts of things."""
