"""Point 6: as many things stay as can, and the prices show it."""

import itertools
import time
import unittest

from groupings.answers import Stay
from groupings.comparing import staying
from tests.listing import all_couples, all_groupings, grouping_of, most_that_stay, sixty

ALONE = [[thing] for thing in range(60)]
WHOLE = [list(range(60))]
SIXTY = sixty()


def how_many(stay, one, other):
    """How many things stay by the pairs."""
    return sum(len(set(one[left]) & set(other[right])) for left, right in stay.pairs)


class StayingTest(unittest.TestCase):
    def assert_stays(self, one, other):
        """A Stay that shows, counted here as well; how many stay."""
        told = staying(one, other)
        self.assertIs(type(told), Stay)
        self.assertIs(told.shows(one, other), True, (one, other, vars(told)))
        self.assertEqual({type(pair) for pair in told.pairs} | {tuple}, {tuple})
        numbers = [*told.mine, *told.theirs, *itertools.chain.from_iterable(told.pairs)]
        self.assertEqual({type(number) for number in numbers} | {int}, {int})
        many = how_many(told, one, other)
        self.assertEqual(sum(told.mine) + sum(told.theirs), many)
        return many

    def test_ordinary_ones(self):
        self.assertEqual(self.assert_stays([[0, 1, 2], [3, 4]], [[0, 1, 3], [2, 4]]), 3)
        self.assertEqual(self.assert_stays([[0, 1, 2, 3]], [[0, 3], [1], [2]]), 2)
        self.assertEqual(self.assert_stays([[0, 3], [1, 2]], [[0, 1, 2], [3]]), 3)

    def test_the_greatest_pair_first_is_not_the_best(self):
        one = [[0, 1, 2, 3, 4], [5, 6]]
        other = [[0, 1, 2, 5, 6], [3, 4]]
        self.assertEqual(self.assert_stays(one, other), 4)
        one = [[0, 1, 2, 3, 4], [5, 6, 7]]
        other = [[0, 1, 2, 5, 6, 7], [3, 4]]
        self.assertEqual(self.assert_stays(one, other), 5)
        self.assertEqual(staying(one, other).pairs, [(0, 1), (1, 0)])

    def test_no_thing(self):
        told = staying([], [])
        self.assertEqual((type(told), told.pairs, told.mine, told.theirs), (Stay, [], [], []))

    def test_one_thing(self):
        self.assertEqual(self.assert_stays([[0]], [[0]]), 1)
        self.assertEqual(staying([[0]], [[0]]).pairs, [(0, 0)])

    def test_the_best_of_all_pairings_of_few_things(self):
        for many in range(6):
            for one, other in all_couples(many):
                self.assertEqual(self.assert_stays(one, other), most_that_stay(one, other), (one, other))

    def test_the_best_of_all_pairings_of_six_things(self):
        groupings = all_groupings(6)
        for one in groupings[::7]:
            for other in groupings:
                self.assertEqual(self.assert_stays(one, other), most_that_stay(one, other), (one, other))

    def test_the_best_of_all_pairings_of_sixty_things_in_few_groups(self):
        tried = 0
        for one, other in itertools.product(SIXTY, repeat=2):
            if max(len(one), len(other)) <= 7 or min(len(one), len(other)) <= 2:
                self.assertEqual(self.assert_stays(one, other), most_that_stay(one, other), (one, other))
                tried += 1
        self.assertGreater(tried, 100)

    def test_as_many_either_way_round(self):
        for one, other in [*all_couples(4), *itertools.product(SIXTY, repeat=2)]:
            self.assertEqual(self.assert_stays(one, other), self.assert_stays(other, one))

    def test_all_things_of_the_same_twice(self):
        for grouping in [*all_groupings(5), *SIXTY]:
            self.assertEqual(self.assert_stays(grouping, grouping), sum(len(group) for group in grouping))

    def test_one_thing_of_each_group_where_the_other_parts_all(self):
        for grouping in SIXTY:
            self.assertEqual(self.assert_stays(grouping, ALONE), len(grouping))
            self.assertEqual(self.assert_stays(grouping, WHOLE), max(len(group) for group in grouping))

    def test_groups_moved_on_by_a_thing(self):
        # Each group of the one has things in common with two groups of the other, side by side.
        for many in (2, 3, 6, 30):
            one = grouping_of([thing * many // 60 for thing in range(60)])
            other = grouping_of([(thing + 1) % 60 * many // 60 for thing in range(60)])
            self.assertEqual(self.assert_stays(one, other), 60 - many)
        stairs = grouping_of([thing // 2 for thing in range(60)])
        moved = grouping_of([(thing + 1) // 2 for thing in range(60)])
        self.assertEqual(self.assert_stays(stairs, moved), 30)
        self.assertEqual(self.assert_stays(moved, stairs), 30)

    def test_sixty_things_in_a_moment(self):
        for one, other in itertools.product(SIXTY, repeat=2):
            begun = time.perf_counter()
            staying(one, other)
            self.assertLess(time.perf_counter() - begun, 2, (one, other))

    def test_it_does_not_show_of_other_groupings(self):
        told = staying([[0, 1], [2, 3]], [[0, 1], [2, 3]])
        self.assertIs(told.shows([[0, 1], [2, 3]], [[0, 2], [1, 3]]), False)
        self.assertIs(told.shows([[0, 1, 2, 3]], [[0, 1], [2, 3]]), False)


if __name__ == "__main__":
    unittest.main()
