"""Point 1: nothing handed in is changed or kept, and each list that is told is the asker's own."""

import copy
import unittest

from groupings.comparing import finer, joined, linked, met, staying
from groupings.errors import GroupError
from groupings.numbers import grouping_by, groupings, number_of, with_groups
from tests.listing import sixty

SIXTY = sixty()
COUPLES = (([], []), ([[0]], [[0]]), ([[0, 1], [2]], [[0, 1], [2]]), ([[0], [1], [2]], [[0, 2], [1]]),
           ([[0, 2], [1, 3]], [[0], [1, 3], [2]]), ([[0, 1], [2, 3], [4]], [[0], [1, 2], [3], [4]]),
           (SIXTY[0], SIXTY[1]), (SIXTY[1], SIXTY[0]), (SIXTY[5], SIXTY[9]), (SIXTY[7], SIXTY[7]))


def asked():
    """Each function with what it is asked of, made anew."""
    told = [(call, [one, other]) for call in (finer, met, joined, staying) for one, other in COUPLES]
    told += [(linked, [one, other, 0, end]) for one, other in COUPLES[1:] for end in (0, sum(map(len, one)) - 1)]
    told += [(number_of, [one]) for one, other in COUPLES]
    told += [(grouping_by, [3, number]) for number in range(5)] + [(grouping_by, [60, 10 ** 50]), (grouping_by, [0, 0])]
    told += [(groupings, [60]), (with_groups, [60, 30])]
    return [(call, anew(handed)) for call, handed in told]


def anew(value):
    """The same, each list in it made anew, also one that is in it twice."""
    return [anew(part) for part in value] if isinstance(value, list) else value


def fields(told):
    """What was told, by fields if it is an answer."""
    return [type(told).__name__, *vars(told).values()] if hasattr(told, "shows") else [told]


def lists_in(value):
    """Each list in it, within lists and tuples too."""
    if not isinstance(value, (list, tuple)):
        return []
    inner = [found for part in value for found in lists_in(part)]
    return [value, *inner] if isinstance(value, list) else inner


def spoil(value):
    """Change each list in it."""
    for found in lists_in(value):
        found.reverse()
        found.append("spoilt")


class OwnListsTest(unittest.TestCase):
    def test_nothing_handed_in_is_changed(self):
        for call, handed in asked():
            before = copy.deepcopy(handed)
            call(*handed)
            self.assertEqual(handed, before, call.__name__)

    def test_nothing_that_is_refused_is_changed(self):
        for handed in ([[[2, 1], [0]], [[0]]], [[[0]], [[1], [0]]], [[[0]], [[0, 1]]], [[[1, 1], []], "x"]):
            for call in (finer, met, joined, staying):
                before = copy.deepcopy(handed)
                self.assertRaises(GroupError, call, *handed)
                self.assertEqual(handed, before)

    def test_changing_what_was_handed_in_changes_nothing_told(self):
        for call, handed in asked():
            told = fields(call(*handed))
            before = copy.deepcopy(told)
            spoil(handed)
            self.assertEqual(told, before, call.__name__)

    def test_changing_what_was_told_changes_nothing_handed_in_and_nothing_told_again(self):
        for call, handed in asked():
            kept = copy.deepcopy(handed)
            told = fields(call(*handed))
            before = copy.deepcopy(told)
            spoil(told)
            self.assertEqual(handed, kept, call.__name__)
            self.assertEqual(fields(call(*handed)), before, call.__name__)

    def test_no_list_is_told_twice_or_handed_in(self):
        for call, handed in asked():
            found = lists_in(handed) + lists_in(fields(call(*handed))) + lists_in(fields(call(*handed)))
            self.assertEqual(len({id(part) for part in found}), len(found), call.__name__)

    def test_one_list_handed_in_as_both(self):
        for call in (finer, met, joined, staying):
            both = [[0, 2], [1]]
            told = fields(call(both, both))
            spoil(told)
            self.assertEqual(both, [[0, 2], [1]])

    def test_an_answer_speaks_of_what_is_handed_in_then(self):
        one, other = [[0, 1]], [[0], [1]]
        told = finer(one, other)
        self.assertIs(told.shows(one, other), True)
        one[:] = [[0], [1]]
        self.assertIs(told.shows(one, other), False)
        one[:] = [[0, 1]]
        told.first = 1
        self.assertIs(told.shows(one, other), False)

    def test_the_same_is_told_when_asked_again(self):
        for call, handed in asked():
            self.assertEqual(fields(call(*handed)), fields(call(*handed)), call.__name__)


if __name__ == "__main__":
    unittest.main()
