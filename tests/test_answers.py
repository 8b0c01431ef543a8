"""Points 2, 4 and 6: when an answer is as its point tells, case by case."""

import copy
import inspect
import unittest

from groupings.answers import Answer, Chain, Side, Stay, Torn, Within

ANSWERS = {Within: ["homes"], Torn: ["first", "second"], Chain: ["things"], Side: ["things"],
           Stay: ["pairs", "mine", "theirs"]}


class ShowsTest(unittest.TestCase):
    """What each case below asks by."""

    def assert_shows(self, answer, *asked):
        self.assertIs(answer.shows(*asked), True, vars(answer))

    def assert_not(self, answer, *asked):
        self.assertIs(answer.shows(*asked), False, vars(answer))


class InterfaceTest(unittest.TestCase):
    def test_each_answer_is_straight_under_answer(self):
        for answer in ANSWERS:
            self.assertEqual(answer.__bases__, (Answer,))

    def test_fields_by_their_names(self):
        for answer, fields in ANSWERS.items():
            self.assertEqual(list(inspect.signature(answer).parameters), fields)
            made = answer(**{field: [] for field in fields})
            self.assertEqual(sorted(vars(made)), sorted(fields))

    def test_shows_stands_in_each_answer(self):
        for answer in ANSWERS:
            asked = ["self", "one", "other"] + (["begin", "end"] if answer in (Chain, Side) else [])
            self.assertIn("shows", vars(answer))
            self.assertEqual(list(inspect.signature(answer.shows).parameters), asked)

    def test_fields_are_what_was_handed_in(self):
        torn = Torn(3, 5)
        self.assertEqual((torn.first, torn.second), (3, 5))
        self.assertEqual(Within([2, 0]).homes, [2, 0])
        self.assertEqual(Chain([2, 0, 1]).things, [2, 0, 1])
        self.assertEqual(Side([0, 4]).things, [0, 4])
        stay = Stay([(0, 1)], [2, 0], [3])
        self.assertEqual((stay.pairs, stay.mine, stay.theirs), ([(0, 1)], [2, 0], [3]))

    def test_wrong_fields_are_kept_as_they_are(self):
        self.assertEqual(Within([-1, 10 ** 30]).homes, [-1, 10 ** 30])
        self.assertEqual(Side([3, 1, 1]).things, [3, 1, 1])
        self.assertEqual(Stay([(5, -5), (0, 0)], [-1], []).pairs, [(5, -5), (0, 0)])


class WithinTest(ShowsTest):
    one = [[0, 2], [1], [3, 4]]
    other = [[0, 2, 3, 4], [1]]

    def test_as_told(self):
        self.assert_shows(Within([0, 1, 0]), self.one, self.other)
        self.assert_shows(Within([0, 1, 2]), self.one, self.one)
        self.assert_shows(Within([0, 0, 0]), self.one, [[0, 1, 2, 3, 4]])
        self.assert_shows(Within([0]), [[0]], [[0]])

    def test_the_other_way_round(self):
        self.assert_not(Within([0, 1, 0]), self.other, self.one)
        self.assert_not(Within([0, 1]), self.other, self.one)

    def test_one_gone_or_one_more(self):
        self.assert_not(Within([0, 1]), self.one, self.other)
        self.assert_not(Within([1, 0]), self.one, self.other)
        self.assert_not(Within([]), self.one, self.other)
        self.assert_not(Within([0, 1, 0, 0]), self.one, self.other)
        self.assert_not(Within([0, 1, 0, 1]), self.one, self.other)

    def test_exchanged_or_twice(self):
        self.assert_not(Within([1, 0, 0]), self.one, self.other)
        self.assert_not(Within([0, 0, 0]), self.one, self.other)
        self.assert_not(Within([1, 1, 1]), self.one, self.other)

    def test_a_group_that_there_is_not(self):
        for wrong in (2, 3, 60, 10 ** 30, -1, -2, -3, -(10 ** 30)):
            for at in range(3):
                homes = [0, 1, 0]
                homes[at] = wrong
                self.assert_not(Within(homes), self.one, self.other)

    def test_a_group_that_has_only_some_of_the_things(self):
        self.assert_not(Within([0]), [[0, 1]], [[0], [1]])
        self.assert_not(Within([1]), [[0, 1]], [[0], [1]])
        self.assert_not(Within([0, 0]), [[0, 1], [2]], [[0, 2], [1]])

    def test_no_thing(self):
        self.assert_shows(Within([]), [], [])
        self.assert_not(Within([0]), [], [])
        self.assert_not(Within([-1]), [], [])

    def test_true_and_false_are_no_counts(self):
        self.assert_not(Within([False, True, False]), self.one, self.other)


class TornTest(ShowsTest):
    one = [[0, 1, 3], [2]]
    other = [[0, 2, 3], [1]]

    def test_as_told(self):
        self.assert_shows(Torn(0, 1), self.one, self.other)
        self.assert_shows(Torn(1, 3), self.one, self.other)

    def test_the_other_way_round(self):
        self.assert_not(Torn(1, 0), self.one, self.other)
        self.assert_not(Torn(3, 1), self.one, self.other)

    def test_the_groupings_the_other_way_round(self):
        self.assert_not(Torn(0, 1), self.other, self.one)
        self.assert_shows(Torn(0, 2), self.other, self.one)
        self.assert_not(Torn(0, 2), self.one, self.other)

    def test_together_in_both_or_in_neither(self):
        self.assert_not(Torn(0, 3), self.one, self.other)
        self.assert_not(Torn(1, 2), self.one, self.other)

    def test_one_thing_twice(self):
        for thing in range(4):
            self.assert_not(Torn(thing, thing), self.one, self.other)

    def test_a_thing_that_there_is_not(self):
        for wrong in (4, 60, 10 ** 30, -1, -3, -4, -(10 ** 30)):
            for thing in (0, 1, 3, wrong):
                self.assert_not(Torn(thing, wrong), self.one, self.other)
                self.assert_not(Torn(wrong, thing), self.one, self.other)

    def test_equal_groupings(self):
        for first in range(4):
            for second in range(4):
                self.assert_not(Torn(first, second), self.one, self.one)

    def test_no_thing(self):
        self.assert_not(Torn(0, 1), [], [])
        self.assert_not(Torn(0, 0), [], [])
        self.assert_not(Torn(-1, 0), [], [])

    def test_true_and_false_are_no_things(self):
        self.assert_not(Torn(False, True), self.one, self.other)
        self.assert_not(Torn(0, True), self.one, self.other)


class ChainTest(ShowsTest):
    one = [[0, 1], [2, 3], [4], [5]]
    other = [[0], [1, 2], [3, 4], [5]]

    def test_as_told(self):
        self.assert_shows(Chain([0, 1, 2, 3, 4]), self.one, self.other, 0, 4)
        self.assert_shows(Chain([4, 3, 2, 1, 0]), self.one, self.other, 4, 0)
        self.assert_shows(Chain([1, 2]), self.one, self.other, 1, 2)
        self.assert_shows(Chain([1, 2]), self.other, self.one, 1, 2)

    def test_longer_than_needed(self):
        self.assert_shows(Chain([0, 2]), [[0, 1, 2]], [[0], [1], [2]], 0, 2)
        self.assert_shows(Chain([0, 1, 2]), [[0, 1, 2]], [[0], [1], [2]], 0, 2)

    def test_of_a_thing_to_itself_that_thing_alone(self):
        for thing in range(6):
            self.assert_shows(Chain([thing]), self.one, self.other, thing, thing)
        self.assert_not(Chain([0, 0]), self.one, self.other, 0, 0)
        self.assert_not(Chain([0, 1, 0]), self.one, self.other, 0, 0)
        self.assert_not(Chain([]), self.one, self.other, 0, 0)
        self.assert_not(Chain([1]), self.one, self.other, 0, 0)

    def test_ends_turned_about(self):
        self.assert_not(Chain([0, 1, 2, 3, 4]), self.one, self.other, 4, 0)
        self.assert_not(Chain([4, 3, 2, 1, 0]), self.one, self.other, 0, 4)

    def test_one_gone_or_one_more(self):
        things = [0, 1, 2, 3, 4]
        for at in range(5):
            self.assert_not(Chain(things[:at] + things[at + 1:]), self.one, self.other, 0, 4)
        for at in range(6):
            for more in range(6):
                self.assert_not(Chain(things[:at] + [more] + things[at:]), self.one, self.other, 0, 4)

    def test_no_things(self):
        self.assert_not(Chain([]), self.one, self.other, 0, 1)

    def test_exchanged(self):
        self.assert_not(Chain([0, 2, 1, 3, 4]), self.one, self.other, 0, 4)
        self.assert_not(Chain([1, 0, 2, 3, 4]), self.one, self.other, 0, 4)

    def test_a_thing_twice(self):
        self.assert_not(Chain([0, 1, 1, 2]), self.one, self.other, 0, 2)
        self.assert_not(Chain([0, 1, 0, 1, 2]), self.one, self.other, 0, 2)
        self.assert_not(Chain([0, 0, 1]), self.one, self.other, 0, 1)
        self.assert_not(Chain([0, 1, 1]), self.one, self.other, 0, 1)

    def test_a_step_that_neither_grouping_has(self):
        self.assert_not(Chain([0, 5]), self.one, self.other, 0, 5)
        self.assert_not(Chain([0, 2]), self.one, self.other, 0, 2)

    def test_a_thing_that_there_is_not(self):
        for wrong in (6, 60, 10 ** 30, -1, -6, -(10 ** 30)):
            for at in range(5):
                things = [0, 1, 2, 3, 4]
                things[at] = wrong
                self.assert_not(Chain(things), self.one, self.other, 0, 4)
            self.assert_not(Chain([wrong]), self.one, self.other, 0, 0)

    def test_no_grouping_has_a_thing(self):
        self.assert_not(Chain([0]), [], [], 0, 0)

    def test_true_and_false_are_no_things(self):
        self.assert_not(Chain([False, True]), self.one, self.other, 0, 1)


class SideTest(ShowsTest):
    one = [[0, 3], [1, 2], [4], [5]]
    other = [[0], [1], [2], [3, 4], [5]]

    def test_as_told(self):
        self.assert_shows(Side([0, 3, 4]), self.one, self.other, 0, 1)
        self.assert_shows(Side([0, 3, 4]), self.one, self.other, 4, 5)
        self.assert_shows(Side([0, 3, 4, 5]), self.one, self.other, 3, 2)
        self.assert_shows(Side([0, 1, 2, 3, 4]), self.one, self.other, 1, 5)
        self.assert_shows(Side([5]), self.other, self.one, 5, 0)

    def test_sides_turned_about(self):
        self.assert_not(Side([0, 3, 4]), self.one, self.other, 1, 0)
        self.assert_not(Side([1, 2, 5]), self.one, self.other, 0, 1)
        self.assert_shows(Side([1, 2, 5]), self.one, self.other, 1, 0)

    def test_both_or_neither_among_them(self):
        self.assert_not(Side([0, 3, 4]), self.one, self.other, 0, 3)
        self.assert_not(Side([0, 3, 4]), self.one, self.other, 1, 5)
        self.assert_not(Side([0, 3, 4]), self.one, self.other, 0, 0)
        self.assert_not(Side([0, 3, 4]), self.one, self.other, 1, 1)

    def test_none_and_all(self):
        self.assert_not(Side([]), self.one, self.other, 0, 1)
        self.assert_not(Side([0, 1, 2, 3, 4, 5]), self.one, self.other, 0, 1)

    def test_one_gone_or_one_more(self):
        self.assert_not(Side([0, 3]), self.one, self.other, 0, 1)
        self.assert_not(Side([0, 4]), self.one, self.other, 0, 1)
        self.assert_not(Side([3, 4]), self.one, self.other, 3, 1)
        self.assert_not(Side([0, 2, 3, 4]), self.one, self.other, 0, 5)
        self.assert_not(Side([0, 1, 3, 4]), self.one, self.other, 0, 5)

    def test_a_group_of_either_grouping_in_part(self):
        self.assert_not(Side([0]), [[0, 1], [2]], [[0], [1], [2]], 0, 2)
        self.assert_not(Side([0]), [[0], [1], [2]], [[0, 1], [2]], 0, 2)

    def test_things_that_do_not_rise(self):
        for things in ([3, 0, 4], [0, 4, 3], [4, 3, 0], [0, 0, 3, 4], [0, 3, 3, 4], [0, 3, 4, 4]):
            self.assert_not(Side(things), self.one, self.other, 0, 1)

    def test_a_thing_that_there_is_not(self):
        for things in ([0, 3, 4, 6], [0, 3, 4, 60], [-1, 0, 3, 4], [0, 3, 4, 10 ** 30], [-6, 3, 4], [-(10 ** 30), 0, 3, 4]):
            self.assert_not(Side(things), self.one, self.other, 0, 1)

    def test_no_grouping_has_a_thing(self):
        self.assert_not(Side([]), [], [], 0, 1)
        self.assert_not(Side([0]), [], [], 0, 1)

    def test_true_and_false_are_no_things(self):
        self.assert_not(Side([False]), [[0], [1]], [[0], [1]], 0, 1)
        self.assert_not(Side([True]), [[0], [1]], [[0], [1]], 1, 0)


class StayTest(ShowsTest):
    # [0, 1, 2] has two things in common with [0, 1, 3]; each other two groups have one. So three can stay.
    one = [[0, 1, 2], [3, 4]]
    other = [[0, 1, 3], [2, 4]]

    def test_as_told(self):
        self.assert_shows(Stay([(0, 0), (1, 1)], [1, 0], [1, 1]), self.one, self.other)
        self.assert_shows(Stay([(0, 0), (1, 1)], [2, 1], [0, 0]), self.one, self.other)
        self.assert_shows(Stay([(0, 0), (1, 1), (2, 2)], [0, 0, 0], [1, 1, 1]), [[0], [1], [2]], [[0], [1], [2]])
        self.assert_shows(Stay([(0, 0)], [2], [0, 0]), [[0, 1, 2]], [[0, 1], [2]])

    def test_crossed_pairs(self):
        one, other = [[0, 3], [1, 2]], [[0, 1, 2], [3]]
        self.assert_shows(Stay([(0, 1), (1, 0)], [1, 2], [0, 0]), one, other)
        self.assert_not(Stay([(1, 0), (0, 1)], [1, 2], [0, 0]), one, other)
        self.assert_not(Stay([(0, 0), (1, 1)], [1, 2], [0, 0]), one, other)
        self.assert_not(Stay([(0, 0)], [1, 2], [0, 0]), one, other)

    def test_fewer_stay_than_can(self):
        self.assert_not(Stay([(0, 1), (1, 0)], [1, 0], [1, 1]), self.one, self.other)
        self.assert_not(Stay([(0, 0)], [1, 0], [1, 1]), self.one, self.other)
        self.assert_not(Stay([], [1, 0], [1, 1]), self.one, self.other)

    def test_pairs_that_do_not_rise_or_use_a_group_twice(self):
        for pairs in ([(1, 1), (0, 0)], [(0, 0), (0, 0)], [(0, 0), (0, 1)], [(0, 0), (1, 0)],
                      [(0, 0), (0, 0), (1, 1)], [(0, 0), (1, 1), (1, 1)]):
            self.assert_not(Stay(pairs, [1, 0], [1, 1]), self.one, self.other)
            self.assert_not(Stay(pairs, [2, 1], [0, 0]), self.one, self.other)

    def test_a_group_used_twice_that_would_make_up_the_prices(self):
        together, alone = [[0, 1]], [[0], [1]]
        self.assert_not(Stay([(0, 0), (0, 1)], [1], [0, 1]), together, alone)
        self.assert_not(Stay([(0, 0), (1, 0)], [1, 1], [0]), alone, together)
        self.assert_not(Stay([(0, 0), (0, 0)], [2], [0, 0]), together, alone)
        self.assert_not(Stay([(0, 0), (1, 0)], [2, 0], [0]), alone, together)

    def test_a_pair_with_no_thing_in_common_may_be_told_or_not(self):
        one, other = [[0, 1, 2], [3]], [[0, 1, 3], [2]]
        self.assert_shows(Stay([(0, 0)], [1, 0], [1, 0]), one, other)
        self.assert_shows(Stay([(0, 0), (1, 1)], [1, 0], [1, 0]), one, other)
        self.assert_not(Stay([(1, 1)], [1, 0], [1, 0]), one, other)

    def test_a_group_that_there_is_not(self):
        for wrong in (2, 60, 10 ** 30, -1, -2, -(10 ** 30)):
            self.assert_not(Stay([(0, 0), (1, wrong)], [1, 0], [1, 1]), self.one, self.other)
            self.assert_not(Stay([(0, wrong), (1, 1)], [1, 0], [1, 1]), self.one, self.other)
            self.assert_not(Stay([(0, 0), (wrong, 1)], [1, 0], [1, 1]), self.one, self.other)
            self.assert_not(Stay([(wrong, 0), (1, 1)], [1, 0], [1, 1]), self.one, self.other)
            self.assert_not(Stay([(0, 0), (1, 1), (wrong, wrong)], [1, 0], [1, 1]), self.one, self.other)
        self.assert_not(Stay([(-2, -2), (-1, -1)], [1, 0], [1, 1]), self.one, self.other)

    def test_more_groups_on_one_side(self):
        one, other = [[0], [1], [2]], [[0, 1, 2]]
        for at in range(3):
            self.assert_shows(Stay([(at, 0)], [0, 0, 0], [1]), one, other)
            self.assert_shows(Stay([(0, at)], [1], [0, 0, 0]), other, one)
        for at in (1, 2):
            self.assert_not(Stay([(0, at)], [0, 0, 0], [1]), one, other)
        self.assert_not(Stay([(0, 0)], [1], [0, 0, 0]), one, other)

    def test_prices_too_low_for_two_groups(self):
        one, other = [[0, 1, 2]], [[0, 1], [2]]
        self.assert_shows(Stay([(0, 0)], [1], [1, 0]), one, other)
        self.assert_not(Stay([(0, 0)], [0], [2, 0]), one, other)
        self.assert_not(Stay([(0, 0)], [1], [0, 1]), one, other)
        self.assert_not(Stay([(0, 1)], [1], [0, 0]), one, other)
        self.assert_not(Stay([], [0, 0], [0, 0]), self.one, self.other)

    def test_prices_together_more_or_less_than_stay(self):
        for mine, theirs in (([2, 0], [1, 1]), ([1, 1], [1, 1]), ([1, 0], [2, 1]), ([1, 0], [1, 2]), ([3, 2], [0, 0]),
                             ([0, 0], [1, 1]), ([1, 0], [0, 1]), ([1, 0], [1, 0]), ([10 ** 30, 0], [1, 1])):
            self.assert_not(Stay([(0, 0), (1, 1)], mine, theirs), self.one, self.other)

    def test_a_price_gone_or_one_more(self):
        pairs = [(0, 0), (1, 1)]
        for mine, theirs in (([1], [1, 1]), ([2, 1], [0]), ([1, 0, 0], [1, 1]), ([1, 0], [1, 1, 0]), ([2, 1], []),
                             ([], [1, 1]), ([3], [0, 0]), ([1, 0, 1], [1]), ([1], [1, 1, 0])):
            self.assert_not(Stay(pairs, mine, theirs), self.one, self.other)

    def test_prices_exchanged(self):
        self.assert_not(Stay([(0, 0), (1, 1)], [0, 1], [1, 1]), self.one, self.other)
        self.assert_not(Stay([(0, 0), (1, 1)], [1, 2], [0, 0]), self.one, self.other)

    def test_a_price_below_0(self):
        one, other = [[0, 1]], [[0, 1]]
        self.assert_shows(Stay([(0, 0)], [0], [2]), one, other)
        self.assert_not(Stay([(0, 0)], [-1], [3]), one, other)
        self.assert_not(Stay([(0, 0)], [3], [-1]), one, other)
        self.assert_not(Stay([(0, 0), (1, 1)], [2, 1], [1, -1]), self.one, self.other)
        self.assert_not(Stay([(0, 0), (1, 1)], [3, 2], [-1, -1]), self.one, self.other)

    def test_no_thing(self):
        self.assert_shows(Stay([], [], []), [], [])
        self.assert_not(Stay([(0, 0)], [], []), [], [])
        self.assert_not(Stay([], [0], []), [], [])
        self.assert_not(Stay([], [], [0]), [], [])

    def test_what_is_no_pair(self):
        for wrong in ((), (0,), (0, 0, 0), [0, 0], 0, None):
            self.assert_not(Stay([wrong], [0], [1]), [[0]], [[0]])

    def test_true_and_false_are_no_numbers(self):
        self.assert_not(Stay([(False, 0)], [0], [1]), [[0]], [[0]])
        self.assert_not(Stay([(0, False)], [0], [1]), [[0]], [[0]])
        self.assert_not(Stay([(0, 0)], [False], [1]), [[0]], [[0]])
        self.assert_not(Stay([(0, 0)], [0], [True]), [[0]], [[0]])


class ManyThingsTest(ShowsTest):
    """Sixty things, and one more: an answer refuses nothing."""

    def test_sixty_and_one_more(self):
        for many in (60, 61):
            alone, whole = [[thing] for thing in range(many)], [list(range(many))]
            everyone = list(range(many))
            self.assert_shows(Within([0] * many), alone, whole)
            self.assert_not(Within([0] * many), whole, alone)
            self.assert_shows(Torn(0, many - 1), whole, alone)
            self.assert_not(Torn(0, many - 1), alone, whole)
            self.assert_not(Torn(0, many), whole, alone)
            self.assert_shows(Chain(everyone), alone, whole, 0, many - 1)
            self.assert_not(Chain(everyone), alone, alone, 0, many - 1)
            self.assert_shows(Side(everyone[:-1]), alone, alone, 0, many - 1)
            self.assert_not(Side(everyone[:-1]), alone, whole, 0, many - 1)
            self.assert_shows(Stay([(k, k) for k in range(many)], [1] * many, [0] * many), alone, alone)
            self.assert_shows(Stay([(many - 1, 0)], [0] * many, [1]), alone, whole)
            self.assert_not(Stay([(many, 0)], [0] * many, [1]), alone, whole)


class OwnListsTest(ShowsTest):
    """Lists that are handed in are copied, and the fields are asked as they stand."""

    def test_changing_what_was_handed_in_changes_no_field(self):
        for answer, fields in ANSWERS.items():
            if answer == Torn:
                continue
            handed = {field: [(0, 0)] if field == "pairs" else [0, 1] for field in fields}
            before = copy.deepcopy(handed)
            made = answer(**handed)
            for field in fields:
                handed[field].append(7)
                del handed[field][0]
                self.assertEqual(getattr(made, field), before[field])
                self.assertIsInstance(getattr(made, field), list)

    def test_changing_a_field_changes_nothing_that_was_handed_in(self):
        for answer, fields in ANSWERS.items():
            if answer == Torn:
                continue
            handed = {field: [(0, 0)] for field in fields}
            made = answer(**handed)
            for field in fields:
                getattr(made, field).clear()
            self.assertEqual(handed, {field: [(0, 0)] for field in fields})

    def test_one_list_handed_in_twice_makes_two_fields(self):
        prices = [0]
        stay = Stay(prices, prices, prices)
        stay.mine.append(1)
        stay.pairs.clear()
        self.assertEqual((stay.pairs, stay.mine, stay.theirs, prices), ([], [0, 1], [0], [0]))

    def test_within_speaks_by_its_fields_as_they_stand(self):
        one, other = [[0], [1]], [[0, 1]]
        within = Within([0, 0])
        self.assert_shows(within, one, other)
        within.homes.append(0)
        self.assert_not(within, one, other)
        within.homes.pop()
        self.assert_shows(within, one, other)
        within.homes = [0, 1]
        self.assert_not(within, one, other)
        within.homes = [0, 0]
        self.assert_shows(within, one, other)

    def test_torn_speaks_by_its_fields_as_they_stand(self):
        one, other = [[0, 1, 2]], [[0, 1], [2]]
        torn = Torn(0, 2)
        self.assert_shows(torn, one, other)
        torn.first = 2
        self.assert_not(torn, one, other)
        torn.first = 1
        self.assert_shows(torn, one, other)
        torn.second = 1
        self.assert_not(torn, one, other)
        torn.second = 2
        self.assert_shows(torn, one, other)

    def test_chain_speaks_by_its_fields_as_they_stand(self):
        asked = ([[0, 1], [2]], [[0], [1, 2]], 0, 2)
        chain = Chain([0, 1, 2])
        self.assert_shows(chain, *asked)
        del chain.things[1]
        self.assert_not(chain, *asked)
        chain.things.insert(1, 1)
        self.assert_shows(chain, *asked)
        chain.things = [2, 1, 0]
        self.assert_not(chain, *asked)
        chain.things = [0, 1, 2]
        self.assert_shows(chain, *asked)

    def test_side_speaks_by_its_fields_as_they_stand(self):
        asked = ([[0, 1], [2]], [[0], [1], [2]], 0, 2)
        side = Side([0, 1])
        self.assert_shows(side, *asked)
        side.things.reverse()
        self.assert_not(side, *asked)
        side.things.reverse()
        self.assert_shows(side, *asked)
        side.things = [0]
        self.assert_not(side, *asked)
        side.things = [0, 1]
        self.assert_shows(side, *asked)

    def test_stay_speaks_by_its_fields_as_they_stand(self):
        asked = ([[0], [1]], [[0], [1]])
        stay = Stay([(0, 0), (1, 1)], [1, 1], [0, 0])
        self.assert_shows(stay, *asked)
        for field, wrong in (("pairs", (0, 1)), ("mine", 2), ("theirs", 2)):
            told = getattr(stay, field)
            kept = told[0]
            told[0] = wrong
            self.assert_not(stay, *asked)
            told[0] = kept
            self.assert_shows(stay, *asked)
            setattr(stay, field, [])
            self.assert_not(stay, *asked)
            setattr(stay, field, list(told))
            self.assert_shows(stay, *asked)

    def test_several_are_told_as_a_list(self):
        alone = [[0], [1]]
        for answer, more in ((Within([0, 1]), []), (Chain([0]), [0, 0]), (Side([0]), [0, 1]),
                             (Stay([(0, 0), (1, 1)], [1, 1], [0, 0]), [])):
            for field in ANSWERS[answer.__class__]:
                told = getattr(answer, field)
                self.assert_shows(answer, alone, alone, *more)
                for wrong in (tuple(told), None, 0):
                    setattr(answer, field, wrong)
                    self.assert_not(answer, alone, alone, *more)
                setattr(answer, field, told)

    def test_shows_changes_nothing(self):
        one, other = [[0, 1], [2]], [[0, 2], [1]]
        for answer, more in ((Within([0, 1]), []), (Torn(0, 1), []), (Torn(1, 0), []), (Chain([1, 0, 2]), [1, 2]),
                             (Chain([2, 0]), [0, 2]), (Side([2, 0]), [0, 1]), (Side([0, 1]), [0, 2]),
                             (Stay([(0, 1), (1, 0)], [1, 1], [0, 0]), []), (Stay([(1, 0), (0, 1)], [0, 1], [0]), [])):
            fields = copy.deepcopy(vars(answer))
            said = answer.shows(one, other, *more)
            self.assertIs(answer.shows(one, other, *more), said)
            self.assertEqual((one, other), ([[0, 1], [2]], [[0, 2], [1]]))
            self.assertEqual(vars(answer), fields)

    def test_nothing_handed_to_shows_is_kept(self):
        one, other = [[0, 1]], [[0], [1]]
        torn = Torn(0, 1)
        self.assert_shows(torn, one, other)
        other[:] = [[0, 1]]
        self.assert_not(torn, one, other)
        other[:] = [[0], [1]]
        self.assert_shows(torn, one, other)
        self.assertEqual(vars(torn), {"first": 0, "second": 1})


if __name__ == "__main__":
    unittest.main()
