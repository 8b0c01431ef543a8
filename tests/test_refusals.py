"""Point 1 and the interface: what is refused at each function, as what, and which refusal comes first."""

import unittest

from groupings.comparing import finer, joined, linked, met, staying
from groupings.errors import BadCount, BadGrouping, BadNumber, BadThing, GroupError, Unlike
from groupings.numbers import grouping_by, groupings, number_of, with_groups
from tests.listing import all_groupings
from tests.wrong import HUGE, NO_COUNTS, NO_GROUPINGS, Refuser

OF_TWO = (finer, met, joined, staying)
WHOLE = [list(range(60))]
FINE = ([], [[0]], [[0, 2], [1]], WHOLE)


def linked_ends(one, other):
    """Asked of the first thing, which is a thing just if there are things."""
    return linked(one, other, 0, 0)


class RefusalTest(unittest.TestCase):
    """What each case below asks by."""

    def assert_refused(self, wanted, call, *asked):
        with self.assertRaises(GroupError) as told:
            call(*asked)
        self.assertIs(type(told.exception), wanted)


class BadGroupingTest(RefusalTest):
    def test_the_one_the_other_and_both(self):
        for name, wrong in NO_GROUPINGS.items():
            for call in (*OF_TWO, linked_ends):
                with self.subTest(name=name, call=call.__name__):
                    for fine in FINE:
                        self.assert_refused(BadGrouping, call, wrong, fine)
                        self.assert_refused(BadGrouping, call, fine, wrong)
                    self.assert_refused(BadGrouping, call, wrong, wrong)

    def test_number_of(self):
        for name, wrong in NO_GROUPINGS.items():
            with self.subTest(name=name):
                self.assert_refused(BadGrouping, number_of, wrong)

    def test_what_cannot_be_gone_through_twice(self):
        for call in (*OF_TWO, linked_ends):
            self.assert_refused(BadGrouping, call, iter([[0]]), [[0]])
            self.assert_refused(BadGrouping, call, [[0]], (group for group in [[0]]))
            self.assert_refused(BadGrouping, call, [[0]], [iter([0])])
        self.assert_refused(BadGrouping, number_of, iter([[0]]))

    def test_no_grouping_is_refused(self):
        for many in range(5):
            for grouping in all_groupings(many):
                for call in OF_TWO:
                    call(grouping, grouping)
                number_of(grouping)
                for thing in range(many):
                    linked(grouping, grouping, thing, thing)

    def test_sixty_things_are_none_too_many(self):
        for grouping in (WHOLE, [[thing] for thing in range(60)]):
            for call in (*OF_TWO, linked_ends):
                call(grouping, grouping)
            number_of(grouping)


class UnlikeTest(RefusalTest):
    def test_other_counts_of_things(self):
        told = [[]] + [[list(range(many))] for many in (1, 2, 3, 59, 60)]
        told += [[[thing] for thing in range(many)] for many in (4, 58)]
        for call in (*OF_TWO, linked_ends):
            for one in told:
                for other in told:
                    if one != other:
                        self.assert_refused(Unlike, call, one, other)

    def test_as_many_groups_of_other_counts_of_things(self):
        for call in (*OF_TWO, linked_ends):
            self.assert_refused(Unlike, call, [[0, 1], [2]], [[0], [1]])
            self.assert_refused(Unlike, call, [[0], [1]], [[0, 2], [1]])

    def test_no_grouping_comes_first(self):
        for call in (*OF_TWO, linked_ends):
            for one, other in (([[0, 0]], [[0]]), ([], [[1]]), ([list(range(61))], WHOLE), (WHOLE, [list(range(61))]),
                               ([[0]], [[0], [True]]), ([[0], [1]], [[False]]), (None, []), ([[0]], ())):
                self.assert_refused(BadGrouping, call, one, other)
                self.assert_refused(BadGrouping, call, other, one)


class BadThingTest(RefusalTest):
    def test_begin_end_and_both(self):
        one, other = [[0, 1], [2]], [[0], [1, 2]]
        for at, wrong in enumerate((*NO_COUNTS, 3, 4, 59, 60, 61, HUGE)):
            with self.subTest(at=at):
                for fine in range(3):
                    self.assert_refused(BadThing, linked, one, other, wrong, fine)
                    self.assert_refused(BadThing, linked, one, other, fine, wrong)
                self.assert_refused(BadThing, linked, one, other, wrong, wrong)

    def test_no_thing_has_no_things(self):
        for thing in (0, 1, -1, True, None):
            self.assert_refused(BadThing, linked, [], [], thing, thing)
            self.assert_refused(BadThing, linked, [], [], 0, thing)

    def test_sixty_things(self):
        linked(WHOLE, WHOLE, 0, 59)
        for wrong in (60, 61, -1, True, 59.0):
            self.assert_refused(BadThing, linked, WHOLE, WHOLE, wrong, 59)
            self.assert_refused(BadThing, linked, WHOLE, WHOLE, 59, wrong)

    def test_no_grouping_and_unlike_ones_come_first(self):
        for wrong in (-1, 5, True, "0", None, Refuser()):
            for begin, end in ((wrong, 0), (0, wrong), (wrong, wrong)):
                self.assert_refused(BadGrouping, linked, [[1]], [[0]], begin, end)
                self.assert_refused(BadGrouping, linked, [[0]], [[0], []], begin, end)
                self.assert_refused(BadGrouping, linked, [[0]], [[0], [2]], begin, end)
                self.assert_refused(Unlike, linked, [[0]], [[0], [1]], begin, end)
                self.assert_refused(Unlike, linked, [[0, 1]], [], begin, end)

    def test_a_thing_of_the_longer_one_alone(self):
        self.assert_refused(Unlike, linked, [[0]], [[0, 1]], 0, 1)
        self.assert_refused(Unlike, linked, [[0, 1]], [[0]], 1, 1)


class BadCountTest(RefusalTest):
    def test_counts_of_things(self):
        for at, wrong in enumerate((*NO_COUNTS, 61, 62, 100, 10 ** 30, HUGE)):
            with self.subTest(at=at):
                self.assert_refused(BadCount, groupings, wrong)
                self.assert_refused(BadCount, with_groups, wrong, 0)
                self.assert_refused(BadCount, with_groups, wrong, 3)
                self.assert_refused(BadCount, grouping_by, wrong, 0)

    def test_counts_of_groups(self):
        for at, wrong in enumerate(NO_COUNTS):
            with self.subTest(at=at):
                for things in (0, 1, 3, 60):
                    self.assert_refused(BadCount, with_groups, things, wrong)

    def test_both(self):
        for wrong in (-1, True, None, "", Refuser()):
            for other in (-1, True, None, "", Refuser(), 61):
                self.assert_refused(BadCount, with_groups, other, wrong)
        self.assert_refused(BadCount, with_groups, 61, HUGE)

    def test_from_0_to_60(self):
        for things in range(61):
            groupings(things)
            with_groups(things, things)
            grouping_by(things, 0)

    def test_groups_beyond_60_are_not_refused(self):
        for groups in (61, 62, 10 ** 30, HUGE):
            self.assertEqual(with_groups(60, groups), 0)


class BadNumberTest(RefusalTest):
    def test_no_numbers(self):
        for at, wrong in enumerate((*NO_COUNTS, HUGE)):
            with self.subTest(at=at):
                for things in (0, 1, 3, 60):
                    self.assert_refused(BadNumber, grouping_by, things, wrong)

    def test_one_less_than_there_are_and_no_more(self):
        for things in range(61):
            many = groupings(things)
            grouping_by(things, many - 1)
            self.assert_refused(BadNumber, grouping_by, things, many)
            self.assert_refused(BadNumber, grouping_by, things, many + 1)
            self.assert_refused(BadNumber, grouping_by, things, -1)

    def test_the_count_comes_first(self):
        for things in (61, -1, True, False, None, "3", 3.0, [], HUGE, Refuser()):
            for number in (-1, True, None, "0", 0.0, HUGE, Refuser()):
                self.assert_refused(BadCount, grouping_by, things, number)


if __name__ == "__main__":
    unittest.main()
