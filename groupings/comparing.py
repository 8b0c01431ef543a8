"""Two groupings of as many things: the finer one, both met and joined, chains through them, and who can stay."""

from groupings.answers import Chain, Side, Stay, Torn, Within
from groupings.checks import check_alike, check_thing
from groupings.groups import group_of, grouped_by, homes_of
from groupings.pairing import Pairing


def finer(one, other):
    """A Within if each group of the one is whole in a group of the other, else a Torn."""
    check_alike(one, other)
    homes = homes_of(other)
    for group in one:
        for thing in group:
            if homes[thing] != homes[group[0]]:
                return Torn(group[0], thing)
    return Within([homes[group[0]] for group in one])


def met(one, other):
    """The grouping in which two things are together just if they are in both."""
    check_alike(one, other)
    return grouped_by(list(zip(homes_of(one), homes_of(other))))


def joined(one, other):
    """The grouping in which two things are together just if a chain leads from the one to the other."""
    check_alike(one, other)
    marks = homes_of(one)
    for group in other:
        here = [marks[thing] for thing in group]
        marks = [here[0] if mark in here else mark for mark in marks]
    return grouped_by(marks)


def linked(one, other, begin, end):
    """A Chain from begin to end if there is one, else a Side."""
    check_alike(one, other)
    check_thing(begin, one)
    check_thing(end, one)
    before = chained_from(one, other, begin)
    if end not in before:
        return Side(sorted(before))
    things = [end]
    while things[-1] != begin:
        things.append(before[things[-1]])
    return Chain(things[::-1])


def chained_from(one, other, begin):
    """Each thing to which a chain leads from begin, with the thing that stands before it in a shortest one."""
    before = {begin: None}
    waiting = [begin]
    while waiting:
        near = waiting.pop(0)
        for far in one[group_of(one, near)] + other[group_of(other, near)]:
            if far not in before:
                before[far] = near
                waiting.append(far)
    return before


def staying(one, other):
    """A Stay by which the most things stay."""
    check_alike(one, other)
    pairing = Pairing(one, other)
    for left in range(len(one)):
        pairing.settle(left)
    return Stay(pairing.paired(), pairing.mine, pairing.theirs)
