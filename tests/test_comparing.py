"""Points 2, 3 and 4: the finer of two groupings, both met and joined, and chains through them."""

import inspect
import itertools
import unittest

from groupings import comparing
from groupings.answers import Chain, Side, Torn, Within
from groupings.comparing import finer, joined, linked, met
from groupings.groups import is_grouping
from tests.listing import all_couples, all_groupings, grouping_of, sixty

ALONE = [[thing] for thing in range(60)]
WHOLE = [list(range(60))]
SIXTY = sixty()

# 0 to 1 in the one, 1 to 2 in the other, and so on: one way leads through all things.
STAIRS = ([[thing, thing + 1] for thing in range(0, 60, 2)],
          [[0]] + [[thing, thing + 1] for thing in range(1, 59, 2)] + [[59]])


def scrambled(grouping):
    """The grouping with other things in the places of its things."""
    return sorted(sorted(thing * 7 % 60 for thing in group) for group in grouping)


def couples():
    """Few things, all groupings beside each; 60 things, many beside each."""
    for many in range(6):
        yield from all_couples(many)
    yield from itertools.product(SIXTY, repeat=2)


def ties(grouping):
    """For each thing, the things that it is together with, one bit each."""
    told = {thing: sum(1 << near for near in group) for group in grouping for thing in group}
    return [told[thing] for thing in sorted(told)]


def closed(steps):
    """For each thing, the things that some of the steps lead to, by trying each thing between."""
    reach = list(steps)
    for by in range(len(reach)):
        reach = [told | reach[by] if told >> by & 1 else told for told in reach]
    return reach


def chained(one, other):
    """For each thing, the things that a chain leads to."""
    return closed([here | there for here, there in zip(ties(one), ties(other))])


def size(grouping):
    return sum(len(group) for group in grouping)


class InterfaceTest(unittest.TestCase):
    def test_names_and_arguments(self):
        for name in ("finer", "met", "joined", "staying"):
            self.assertEqual(list(inspect.signature(getattr(comparing, name)).parameters), ["one", "other"])
        self.assertEqual(list(inspect.signature(linked).parameters), ["one", "other", "begin", "end"])

    def test_arguments_by_their_names(self):
        one, other = [[0, 1]], [[0], [1]]
        self.assertIsInstance(finer(other=other, one=one), Torn)
        self.assertEqual(met(other=other, one=one), other)
        self.assertEqual(joined(other=other, one=one), one)
        self.assertEqual(linked(end=1, begin=0, other=other, one=one).things, [0, 1])
        self.assertEqual(comparing.staying(other=other, one=one).pairs[0][0], 0)


class FinerTest(unittest.TestCase):
    def test_within(self):
        told = finer([[0, 2], [1], [3, 4]], [[0, 2, 3, 4], [1]])
        self.assertIs(type(told), Within)
        self.assertEqual(told.homes, [0, 1, 0])

    def test_torn(self):
        told = finer([[0, 2, 3, 4], [1]], [[0, 2, 3], [1], [4]])
        self.assertIs(type(told), Torn)
        self.assertIn((told.first, told.second), [(0, 4), (2, 4), (3, 4)])

    def test_torn_in_the_last_group_alone(self):
        told = finer([[0, 1], [2], [3, 4]], [[0, 1, 2], [3], [4]])
        self.assertEqual((type(told), told.first, told.second), (Torn, 3, 4))

    def test_no_thing(self):
        told = finer([], [])
        self.assertEqual((type(told), told.homes), (Within, []))

    def test_one_thing(self):
        self.assertEqual(finer([[0]], [[0]]).homes, [0])

    def test_each_alone_is_within_each_and_each_within_all_together(self):
        for grouping in SIXTY:
            self.assertIs(type(finer(ALONE, grouping)), Within)
            self.assertIs(type(finer(grouping, WHOLE)), Within)
            self.assertIs(type(finer(grouping, grouping)), Within)
            self.assertEqual(finer(grouping, grouping).homes, list(range(len(grouping))))
            self.assertIs(type(finer(grouping, ALONE)), Within if grouping == ALONE else Torn)
            self.assertIs(type(finer(WHOLE, grouping)), Within if grouping == WHOLE else Torn)

    def test_the_class_that_is_due_and_it_shows(self):
        seen = set()
        for one, other in couples():
            told = finer(one, other)
            whole = all(any(set(group) <= set(faced) for faced in other) for group in one)
            self.assertIs(type(told), Within if whole else Torn, (one, other))
            self.assertIs(told.shows(one, other), True, (one, other, vars(told)))
            seen.add(type(told))
        self.assertEqual(seen, {Within, Torn})

    def test_it_does_not_show_of_other_groupings(self):
        told = finer([[0], [1], [2]], [[0, 1], [2]])
        self.assertIs(told.shows([[0], [1], [2]], [[0], [1, 2]]), False)
        self.assertIs(told.shows([[0, 1], [2]], [[0], [1], [2]]), False)
        told = finer([[0, 1], [2]], [[0], [1], [2]])
        self.assertIs(told.shows([[0], [1], [2]], [[0, 1], [2]]), False)
        self.assertIs(told.shows([[0, 1], [2]], [[0, 1, 2]]), False)


class MetAndJoinedTest(unittest.TestCase):
    def test_ordinary_ones(self):
        self.assertEqual(met([[0, 1, 2], [3]], [[0, 2, 3], [1]]), [[0, 2], [1], [3]])
        self.assertEqual(joined([[0, 1], [2], [3, 4]], [[0], [1, 3], [2], [4]]), [[0, 1, 3, 4], [2]])

    def test_groups_and_things_stand_in_order(self):
        self.assertEqual(met([[0, 3, 5], [1, 2, 4]], [[0, 1, 5], [2, 3, 4]]), [[0, 5], [1], [2, 4], [3]])
        self.assertEqual(joined([[0, 5], [1], [2, 4], [3]], [[0], [1, 4], [2], [3, 5]]), [[0, 3, 5], [1, 2, 4]])

    def test_groups_that_are_joined_late(self):
        self.assertEqual(joined([[0, 3], [1, 4], [2, 5]], [[0], [1], [2, 3], [4, 5]]), [[0, 1, 2, 3, 4, 5]])
        self.assertEqual(joined([[0], [1], [2, 3], [4, 5]], [[0, 3], [1, 4], [2, 5]]), [[0, 1, 2, 3, 4, 5]])

    def test_no_thing(self):
        self.assertEqual(met([], []), [])
        self.assertEqual(joined([], []), [])

    def test_one_thing(self):
        self.assertEqual(met([[0]], [[0]]), [[0]])
        self.assertEqual(joined([[0]], [[0]]), [[0]])

    def test_things_together_as_is_due(self):
        for one, other in couples():
            both = [here & there for here, there in zip(ties(one), ties(other))]
            self.assertEqual(ties(met(one, other)), both, (one, other))
            self.assertEqual(ties(joined(one, other)), chained(one, other), (one, other))

    def test_what_is_told_is_a_grouping_of_as_many_things(self):
        for one, other in couples():
            for told in (met(one, other), joined(one, other)):
                self.assertIs(is_grouping(told), True, (one, other))
                self.assertEqual(size(told), size(one))
                self.assertEqual({type(part) for part in [told, *told]} | {list}, {list})
                self.assertLessEqual({type(thing) for group in told for thing in group}, {int})

    def test_either_way_round_the_same(self):
        for one, other in couples():
            self.assertEqual(met(one, other), met(other, one))
            self.assertEqual(joined(one, other), joined(other, one))

    def test_of_the_same_twice_that_one(self):
        for grouping in [*itertools.chain.from_iterable(all_groupings(many) for many in range(7)), *SIXTY]:
            self.assertEqual(met(grouping, grouping), grouping)
            self.assertEqual(joined(grouping, grouping), grouping)

    def test_of_three_in_either_turn_the_same(self):
        for many in range(5):
            self.assert_turns(all_groupings(many))
        self.assert_turns(SIXTY[::4])

    def assert_turns(self, groupings):
        for one, other, third in itertools.product(groupings, repeat=3):
            self.assertEqual(met(met(one, other), third), met(one, met(other, third)))
            self.assertEqual(joined(joined(one, other), third), joined(one, joined(other, third)))

    def test_met_is_within_both_and_both_are_within_joined(self):
        for one, other in couples():
            for grouping in (one, other):
                self.assertIs(type(finer(met(one, other), grouping)), Within)
                self.assertIs(type(finer(grouping, joined(one, other))), Within)

    def test_all_together_and_each_alone(self):
        for grouping in SIXTY:
            self.assertEqual(met(grouping, WHOLE), grouping)
            self.assertEqual(met(grouping, ALONE), ALONE)
            self.assertEqual(joined(grouping, ALONE), grouping)
            self.assertEqual(joined(grouping, WHOLE), WHOLE)

    def test_sixty_things_joined_by_one_way_through_all(self):
        for one, other in (STAIRS, STAIRS[::-1], [scrambled(grouping) for grouping in STAIRS]):
            self.assertEqual(joined(one, other), WHOLE)
            self.assertEqual(met(one, other), ALONE)


class LinkedTest(unittest.TestCase):
    one = [[0, 1], [2, 3], [4], [5, 6]]
    other = [[0], [1, 2], [3, 4], [5], [6]]

    def assert_linked(self, one, other, begin, end, due):
        told = linked(one, other, begin, end)
        self.assertIs(type(told), due, (one, other, begin, end))
        self.assertIs(told.shows(one, other, begin, end), True, (one, other, begin, end, told.things))
        return told

    def test_chain(self):
        self.assertEqual(self.assert_linked(self.one, self.other, 0, 4, Chain).things, [0, 1, 2, 3, 4])
        self.assertEqual(self.assert_linked(self.one, self.other, 4, 0, Chain).things, [4, 3, 2, 1, 0])
        self.assertEqual(self.assert_linked(self.other, self.one, 3, 1, Chain).things, [3, 2, 1])

    def test_side(self):
        self.assertEqual(self.assert_linked(self.one, self.other, 0, 5, Side).things, [0, 1, 2, 3, 4])
        self.assertEqual(self.assert_linked(self.one, self.other, 6, 2, Side).things, [5, 6])

    def test_of_a_thing_to_itself_that_thing_alone(self):
        for one, other in (*all_couples(4), (ALONE, ALONE), (WHOLE, WHOLE), STAIRS):
            for thing in range(size(one)):
                self.assertEqual(self.assert_linked(one, other, thing, thing, Chain).things, [thing])

    def test_chain_just_if_joined_has_both_together(self):
        seen = set()
        for many in range(1, 6):
            for one, other in all_couples(many):
                tied = ties(joined(one, other))
                for begin, end in itertools.product(range(many), repeat=2):
                    due = Chain if tied[begin] >> end & 1 else Side
                    self.assert_linked(one, other, begin, end, due)
                    seen.add(due)
        self.assertEqual(seen, {Chain, Side})

    def test_sixty_things(self):
        seen = set()
        for one, other in itertools.product(SIXTY, repeat=2):
            tied = ties(joined(one, other))
            for begin, end in ((0, 59), (59, 0), (17, 44), (2, 3), (31, 30)):
                due = Chain if tied[begin] >> end & 1 else Side
                self.assert_linked(one, other, begin, end, due)
                seen.add(due)
        self.assertEqual(seen, {Chain, Side})

    def test_the_longest_chains_through_sixty_things(self):
        for one, other in (STAIRS, STAIRS[::-1]):
            self.assertEqual(self.assert_linked(one, other, 0, 59, Chain).things, list(range(60)))
            self.assertEqual(self.assert_linked(one, other, 59, 0, Chain).things, list(range(59, -1, -1)))
        one, other = [scrambled(grouping) for grouping in STAIRS]
        along = [thing * 7 % 60 for thing in range(60)]
        self.assertEqual(self.assert_linked(one, other, along[0], along[-1], Chain).things, along)
        self.assertEqual(self.assert_linked(other, one, along[-1], along[0], Chain).things, along[::-1])
        for begin, end in itertools.combinations(range(60), 2):
            self.assertEqual(self.assert_linked(one, other, along[begin], along[end], Chain).things,
                             along[begin:end + 1])

    def test_sixty_things_in_two_halves_that_no_step_joins(self):
        halves, parts = [grouping_of([thing % many for thing in range(60)]) for many in (2, 6)]
        self.assertEqual(self.assert_linked(halves, parts, 0, 59, Side).things, list(range(0, 60, 2)))
        self.assertEqual(self.assert_linked(parts, halves, 59, 0, Side).things, list(range(1, 60, 2)))

    def test_each_alone_and_all_together(self):
        self.assertEqual(self.assert_linked(ALONE, ALONE, 0, 59, Side).things, [0])
        self.assertEqual(self.assert_linked(WHOLE, ALONE, 0, 59, Chain).things, [0, 59])
        self.assertEqual(self.assert_linked(ALONE, WHOLE, 59, 0, Chain).things, [59, 0])

    def test_it_does_not_show_of_others(self):
        chain, side = linked(self.one, self.other, 0, 4), linked(self.one, self.other, 0, 5)
        for begin, end in itertools.product(range(7), repeat=2):
            self.assertIs(chain.shows(self.one, self.other, begin, end), (begin, end) == (0, 4))
            self.assertIs(side.shows(self.one, self.other, begin, end), begin < 5 <= end)
        self.assertIs(chain.shows(self.one, self.one, 0, 4), False)
        self.assertIs(side.shows([list(range(7))], self.other, 0, 5), False)


if __name__ == "__main__":
    unittest.main()
