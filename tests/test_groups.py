"""Point 1: what is a grouping and what is none, and which things are together."""

import copy
import itertools
import unittest

from groupings.groups import (
    all_counted,
    all_things,
    group_of,
    grouped_by,
    homes_of,
    how_many_things,
    in_common,
    is_counted,
    is_group,
    is_grouping,
    is_whole,
    rises,
    together,
)
from tests.listing import all_groupings
from tests.wrong import NO_NUMBERS, Refuser


class IsGroupingTest(unittest.TestCase):
    def assert_grouping(self, value):
        self.assertIs(is_grouping(value), True, value)

    def assert_none(self, value):
        self.assertIs(is_grouping(value), False)

    def test_no_thing_at_all(self):
        self.assert_grouping([])

    def test_one_thing(self):
        self.assert_grouping([[0]])
        self.assert_none([[1]])

    def test_ordinary_ones(self):
        self.assert_grouping([[0, 2], [1]])
        self.assert_grouping([[0], [1, 4], [2, 3, 6], [5]])
        self.assert_grouping([[0, 3], [1, 2]])

    def test_sixty_things_and_no_more(self):
        self.assert_grouping([list(range(60))])
        self.assert_none([list(range(61))])
        self.assert_grouping([[thing] for thing in range(60)])
        self.assert_none([[thing] for thing in range(61)])
        self.assert_grouping([list(range(0, 60, 2)), list(range(1, 60, 2))])
        self.assert_none([list(range(0, 61, 2)), list(range(1, 61, 2))])
        self.assert_none([list(range(1000))])

    def test_all_together_and_each_alone(self):
        for many in range(1, 61):
            self.assert_grouping([list(range(many))])
            self.assert_grouping([[thing] for thing in range(many)])

    def test_a_thing_missing(self):
        self.assert_none([[0, 2]])
        self.assert_none([[0], [2]])
        self.assert_none([[1], [2]])
        self.assert_none([[0, 1], [59]])

    def test_a_thing_twice(self):
        self.assert_none([[0, 0]])
        self.assert_none([[0], [0]])
        self.assert_none([[0, 1], [1]])
        self.assert_none([[0, 1], [1, 2]])
        self.assert_none([[0, 1, 1, 2]])
        self.assert_none([[0, 1], [0, 2]])

    def test_a_thing_below_0(self):
        self.assert_none([[-1]])
        self.assert_none([[-1, 0]])
        self.assert_none([[-1], [0, 1]])
        self.assert_none([[-(10 ** 40), 0]])

    def test_a_thing_far_above(self):
        self.assert_none([[0, 60]])
        self.assert_none([[0, 10 ** 40]])

    def test_a_group_without_things(self):
        self.assert_none([[]])
        self.assert_none([[], [0]])
        self.assert_none([[0], []])
        self.assert_none([[0], [], [1]])

    def test_things_out_of_order(self):
        self.assert_none([[1, 0]])
        self.assert_none([[0, 2, 1]])
        self.assert_none([[0], [2, 1]])

    def test_groups_out_of_order(self):
        self.assert_none([[1], [0]])
        self.assert_none([[0], [2], [1]])
        self.assert_none([[1, 2], [0]])

    def test_true_and_false_are_no_things(self):
        for value in ([[False]], [[0, True]], [[False, 1]], [[0], [True]], [[False], [1]], [[False, True]]):
            with self.subTest(value=value):
                self.assert_none(value)

    def test_no_number_of_another_kind_is_a_thing(self):
        for at, value in enumerate(NO_NUMBERS):
            with self.subTest(at=at):
                self.assert_none([[value]])
                self.assert_none([[0, value]])
                self.assert_none([[0], [value]])

    def test_what_is_no_list(self):
        for value in (None, True, False, 0, 1, 1.5, "", "0", b"", (), ([0],), {}, {0: [0]}, set(), frozenset({0}),
                      range(0), range(1), iter([]), iter([[0]]), object(), Refuser(), list, len):
            with self.subTest(value=str(value.__class__)):
                self.assert_none(value)

    def test_groups_that_are_no_lists(self):
        for group in (None, True, 0, 0.0, "0", b"\x00", (0,), {0}, {0: 0}, range(1), iter([0]), object(), Refuser()):
            with self.subTest(group=str(group.__class__)):
                self.assert_none([group])
                self.assert_none([[0], group])
        self.assert_none([[0], (1,)])

    def test_a_list_within_itself(self):
        knot = []
        knot.append(knot)
        self.assert_none(knot)
        self.assert_none([knot])

    def test_a_long_list_said_often(self):
        self.assert_none([[0] * 100000] * 100000)
        self.assert_none([list(range(60))] * 10 ** 7)
        self.assert_none([[0] * 10 ** 7])

    def test_just_the_groupings_among_all_lists_of_few_things(self):
        wanted = all_groupings(3)
        groups = [list(group) for k in range(4) for group in itertools.product(range(3), repeat=k)]
        for k in range(4):
            for value in itertools.product(groups, repeat=k):
                lists = [list(group) for group in value]
                if sum(len(group) for group in lists) == 3:
                    self.assertIs(is_grouping(lists), lists in wanted, lists)

    def test_each_grouping_of_up_to_six_things(self):
        for many in range(7):
            for grouping in all_groupings(many):
                self.assert_grouping(grouping)

    def test_nothing_handed_in_is_changed(self):
        for value in ([], [[0, 2], [1]], [[2, 1], [0]], [[1], [], [0]]):
            before = copy.deepcopy(value)
            is_grouping(value)
            self.assertEqual(value, before)


class NumbersTest(unittest.TestCase):
    def test_whole_numbers(self):
        for value in (0, 1, -1, 60, 10 ** 80, -(10 ** 80)):
            self.assertIs(is_whole(value), True)
        for at, value in enumerate(NO_NUMBERS):
            with self.subTest(at=at):
                self.assertIs(is_whole(value), False)

    def test_counted_from_0_to_one_less(self):
        self.assertEqual([value for value in range(-5, 6) if is_counted(value, 3)], [0, 1, 2])
        self.assertIs(is_counted(0, 0), False)
        for at, value in enumerate(NO_NUMBERS):
            with self.subTest(at=at):
                self.assertIs(is_counted(value, 3), False)

    def test_all_counted(self):
        self.assertIs(all_counted([], 0), True)
        self.assertIs(all_counted([2, 0, 2], 3), True)
        for value in ([3], [0, -1], [0, True], (0,), "", None, range(1), Refuser()):
            with self.subTest(value=str(value.__class__)):
                self.assertIs(all_counted(value, 3), False)

    def test_rising(self):
        for numbers in ([], [5], [-1, 0], [0, 1, 7]):
            self.assertIs(rises(numbers), True)
        for numbers in ([0, 0], [1, 0], [0, 2, 1], [0, 1, 1]):
            self.assertIs(rises(numbers), False)


class ThingsTest(unittest.TestCase):
    def test_group(self):
        self.assertIs(is_group([0]), True)
        self.assertIs(is_group([3, 59]), True)
        for value in ([], [3, 3], [4, 3], [60], [-1], [True], (0,), None):
            self.assertIs(is_group(value), False)

    def test_all_things(self):
        self.assertEqual(all_things([]), [])
        self.assertEqual(all_things([[0, 2], [1]]), [0, 2, 1])

    def test_group_of_a_thing(self):
        grouping = [[0, 3], [1], [2, 4]]
        self.assertEqual([group_of(grouping, thing) for thing in range(5)], [0, 1, 2, 0, 2])
        self.assertIsNone(group_of(grouping, 5))
        self.assertIsNone(group_of(grouping, -1))
        self.assertIsNone(group_of([], 0))

    def test_how_many_things(self):
        self.assertEqual(how_many_things([]), 0)
        self.assertEqual(how_many_things([[0, 2], [1]]), 3)
        self.assertEqual(how_many_things([[thing] for thing in range(60)]), 60)

    def test_homes_of_things(self):
        self.assertEqual(homes_of([]), [])
        self.assertEqual(homes_of([[0, 3], [1], [2, 4]]), [0, 1, 2, 0, 2])

    def test_grouped_by_marks(self):
        self.assertEqual(grouped_by([]), [])
        self.assertEqual(grouped_by([7, 3, 7, (1, 2), 3]), [[0, 2], [1, 4], [3]])
        for many in range(6):
            for grouping in all_groupings(many):
                self.assertEqual(grouped_by(homes_of(grouping)), grouping)

    def test_together_if_one_group_has_both(self):
        grouping = [[0, 3], [1], [2, 4]]
        pairs = [(a, b) for a in range(5) for b in range(5) if together(grouping, a, b)]
        self.assertEqual(pairs, [(0, 0), (0, 3), (1, 1), (2, 2), (2, 4), (3, 0), (3, 3), (4, 2), (4, 4)])
        self.assertIs(together(grouping, 5, 5), False)
        self.assertIs(together([], 0, 0), False)

    def test_in_common(self):
        self.assertEqual(in_common([0, 2, 5], [1, 2, 5, 6]), 2)
        self.assertEqual(in_common([0], [1]), 0)
        self.assertEqual(in_common([0, 1], [0, 1]), 2)


if __name__ == "__main__":
    unittest.main()
