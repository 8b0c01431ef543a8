"""Point 5: how many groupings there are, and each by its number."""

import inspect
import math
import time
import unittest

from groupings import numbers
from groupings.groups import is_grouping
from groupings.numbers import grouping_by, groupings, number_of, with_groups
from tests.listing import all_groupings, sixty
from tests.wrong import HUGE

OF_SIXTY = 976939307467007552986994066961675455550246347757474482558637
FEW = [1, 1, 2, 5, 15, 52, 203, 877, 4140, 21147, 115975, 678570, 4213597]


def table():
    """How many there are of 0 to 60 things, by sums in a triangle."""
    told, row = [1], [1]
    while len(told) <= 60:
        longer = [row[-1]]
        for above in row:
            longer.append(longer[-1] + above)
        row = longer
        told.append(row[0])
    return told


def onto(things, groups):
    """How many have so many groups, by all ways to mark things less those that leave a mark out."""
    signed = [(-1) ** out * math.comb(groups, out) * (groups - out) ** things for out in range(groups + 1)]
    return sum(signed) // math.factorial(groups)


class InterfaceTest(unittest.TestCase):
    def test_names_and_arguments(self):
        for name, arguments in (("groupings", ["things"]), ("with_groups", ["things", "groups"]),
                                ("grouping_by", ["things", "number"]), ("number_of", ["grouping"])):
            self.assertEqual(list(inspect.signature(getattr(numbers, name)).parameters), arguments)

    def test_arguments_by_their_names(self):
        self.assertEqual(groupings(things=3), 5)
        self.assertEqual(with_groups(groups=2, things=3), 3)
        self.assertEqual(number_of(grouping=grouping_by(number=4, things=3)), 4)


class HowManyTest(unittest.TestCase):
    def test_few_things_written_out(self):
        for many in range(9):
            listed = all_groupings(many)
            self.assertEqual(groupings(many), len(listed))
            for groups in range(many + 3):
                self.assertEqual(with_groups(many, groups), len([told for told in listed if len(told) == groups]))

    def test_a_table_to_sixty(self):
        told = table()
        self.assertEqual(told[:len(FEW)], FEW)
        self.assertEqual(told[60], OF_SIXTY)
        for many in range(61):
            self.assertEqual(groupings(many), told[many])
            self.assertIs(type(groupings(many)), int)

    def test_a_table_by_groups_to_sixty(self):
        for many in range(61):
            for groups in range(63):
                self.assertEqual(with_groups(many, groups), onto(many, groups), (many, groups))

    def test_all_counts_of_groups_together(self):
        for many in range(61):
            self.assertEqual(sum(with_groups(many, groups) for groups in range(many + 1)), groupings(many))

    def test_no_groups_of_no_thing(self):
        self.assertEqual(groupings(0), 1)
        self.assertEqual(with_groups(0, 0), 1)

    def test_groups_of_no_thing(self):
        for groups in (1, 2, 60, 61, HUGE):
            self.assertEqual(with_groups(0, groups), 0)

    def test_no_groups_of_things(self):
        for many in range(1, 61):
            self.assertEqual(with_groups(many, 0), 0)

    def test_one_group_and_as_many_groups_as_things(self):
        for many in range(1, 61):
            self.assertEqual(with_groups(many, 1), 1)
            self.assertEqual(with_groups(many, many), 1)

    def test_more_groups_than_things_and_very_many_more(self):
        for many in range(61):
            for groups in (many + 1, many + 2, 61, 10 ** 30, HUGE):
                self.assertEqual(with_groups(many, groups), 0)
                self.assertIs(type(with_groups(many, groups)), int)


class NumberedTest(unittest.TestCase):
    def test_all_numbers_of_few_things_each_grouping_once(self):
        for many in range(8):
            told = [grouping_by(many, number) for number in range(groupings(many))]
            self.assertEqual(sorted(told), sorted(all_groupings(many)))
            self.assertEqual([number_of(grouping) for grouping in told], list(range(groupings(many))))

    def test_each_grouping_of_few_things_there_and_back(self):
        for many in range(8):
            for grouping in all_groupings(many):
                self.assertEqual(grouping_by(many, number_of(grouping)), grouping)

    def test_no_thing(self):
        self.assertEqual(grouping_by(0, 0), [])
        self.assertEqual(number_of([]), 0)

    def test_one_thing(self):
        self.assertEqual(grouping_by(1, 0), [[0]])
        self.assertEqual(number_of([[0]]), 0)

    def test_the_first_and_the_last_number_of_each_count(self):
        for many in range(61):
            for number in {0, 1, groupings(many) // 2, groupings(many) - 2, groupings(many) - 1}:
                if 0 <= number < groupings(many):
                    self.assert_back(many, number)

    def test_numbers_of_sixty_things(self):
        for number in self.between():
            self.assert_back(60, number)

    def between(self):
        """Some numbers of 60 things, the first and the last among them, far from each other and side by side."""
        told = [0, 1, 2, OF_SIXTY - 3, OF_SIXTY - 2, OF_SIXTY - 1]
        told += [OF_SIXTY * part // 97 for part in range(97)]
        told += [10 ** digits + step for digits in range(60) for step in (-1, 0, 1) if 10 ** digits + step < OF_SIXTY]
        return told

    def assert_back(self, many, number):
        grouping = grouping_by(many, number)
        self.assertIs(is_grouping(grouping), True)
        self.assertEqual(sum(len(group) for group in grouping), many)
        self.assertLessEqual({type(thing) for group in grouping for thing in group}, {int})
        back = number_of(grouping)
        self.assertIs(type(back), int)
        self.assertEqual(back, number)

    def test_groupings_of_sixty_things(self):
        told = sixty()
        for grouping in told:
            number = number_of(grouping)
            self.assertTrue(0 <= number < OF_SIXTY)
            self.assertEqual(grouping_by(60, number), grouping)
        self.assertEqual(len({number_of(grouping) for grouping in told}), len({str(grouping) for grouping in told}))

    def test_always_alike(self):
        told = [grouping_by(4, number) for number in range(15)]
        grouping_by(60, OF_SIXTY - 1)
        number_of([[0, 1]])
        self.assertEqual([grouping_by(4, number) for number in range(15)], told)
        self.assertEqual([grouping_by(3, number) for number in range(5)],
                         [[[0, 1, 2]], [[0, 1], [2]], [[0, 2], [1]], [[0], [1, 2]], [[0], [1], [2]]])

    def test_all_together_first_and_each_alone_last(self):
        for many in range(1, 61):
            self.assertEqual(grouping_by(many, 0), [list(range(many))])
            self.assertEqual(grouping_by(many, groupings(many) - 1), [[thing] for thing in range(many)])

    def test_told_at_once(self):
        for call in (lambda: groupings(60), lambda: with_groups(60, 20), lambda: grouping_by(60, OF_SIXTY // 2),
                     lambda: number_of([[thing] for thing in range(60)]), lambda: with_groups(60, HUGE)):
            begun = time.perf_counter()
            call()
            self.assertLess(time.perf_counter() - begun, 2)


if __name__ == "__main__":
    unittest.main()
