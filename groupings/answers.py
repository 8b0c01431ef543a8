"""What is told of two groupings: answers that say of themselves whether they are right."""

from groupings.groups import all_counted, how_many_things, in_common, is_counted, is_whole, rises, together


class Answer:
    """What is told of two groupings, the one and the other."""


class Within(Answer):
    """For each group of the one, in turn, the count of the other's group that has all its things."""

    def __init__(self, homes):
        self.homes = list(homes)

    def shows(self, one, other):
        """Whether each group of the one is whole in the group of the other that is told for it."""
        if not all_counted(self.homes, len(other)) or len(self.homes) != len(one):
            return False
        return all(in_common(group, other[home]) == len(group) for group, home in zip(one, self.homes))


class Torn(Answer):
    """Two things, the lesser one first, together in the one and not in the other."""

    def __init__(self, first, second):
        self.first = first
        self.second = second

    def shows(self, one, other):
        """Whether the two things are in their order, together in the one and not in the other."""
        if not all_counted([self.first, self.second], how_many_things(one)) or self.first >= self.second:
            return False
        return together(one, self.first, self.second) and not together(other, self.first, self.second)


class Chain(Answer):
    """Things from the one thing to the other, each two neighbours together in either grouping."""

    def __init__(self, things):
        self.things = list(things)

    def shows(self, one, other, begin, end):
        """Whether the things lead from begin to end, no thing twice."""
        things = self.things
        if not all_counted(things, how_many_things(one)) or len(set(things)) != len(things):
            return False
        # Slices, since a chain without things has neither a first nor a last one.
        if things[:1] != [begin] or things[-1:] != [end]:
            return False
        return all(together(one, near, far) or together(other, near, far) for near, far in zip(things, things[1:]))


class Side(Answer):
    """Things, rising, the one among them and the other not, no group of either grouping parted by them."""

    def __init__(self, things):
        self.things = list(things)

    def shows(self, one, other, begin, end):
        """Whether the things part begin from end, and each group is among them whole or not at all."""
        things = self.things
        if not all_counted(things, how_many_things(one)) or not rises(things):
            return False
        if begin not in things or end in things:
            return False
        return all(in_common(group, things) in (0, len(group)) for group in one + other)


class Stay(Answer):
    """Pairs of groups of the one and of the other, and prices by which no other pairs let more things stay."""

    def __init__(self, pairs, mine, theirs):
        self.pairs = list(pairs)
        self.mine = list(mine)
        self.theirs = list(theirs)

    def shows(self, one, other):
        """Whether the pairs pair groups, and the prices are enough for each two groups and no more than stay."""
        if not pairs_groups(self.pairs, len(one), len(other)):
            return False
        if not prices_each(self.mine, one) or not prices_each(self.theirs, other):
            return False
        if not prices_suffice(self.mine, self.theirs, one, other):
            return False
        return sum(self.mine) + sum(self.theirs) == how_many_stay(self.pairs, one, other)


def pairs_groups(pairs, many, others):
    """Whether pairs of counts of groups are told, rising, each group at most once."""
    if not isinstance(pairs, list) or not all(is_pair(pair, many, others) for pair in pairs):
        return False
    # A group of the one is in at most one pair, so the pairs rise just if their first counts do.
    return rises([pair[0] for pair in pairs]) and len({pair[1] for pair in pairs}) == len(pairs)


def is_pair(pair, many, others):
    """Whether it is a tuple of a count of so many groups and a count of the other groups."""
    return isinstance(pair, tuple) and len(pair) == 2 and is_counted(pair[0], many) and is_counted(pair[1], others)


def prices_each(prices, grouping):
    """Whether there is one price, a whole number from 0 on, for each group."""
    if not isinstance(prices, list) or len(prices) != len(grouping):
        return False
    return all(is_whole(price) and price >= 0 for price in prices)


def prices_suffice(mine, theirs, one, other):
    """Whether the prices of each two groups are together no less than the things that both have."""
    for group, price in zip(one, mine):
        for faced, paid in zip(other, theirs):
            if price + paid < in_common(group, faced):
                return False
    return True


def how_many_stay(pairs, one, other):
    """How many things are in both groups of a pair."""
    return sum(in_common(one[left], other[right]) for left, right in pairs)
