"""Points 2, 4 and 6: all answers with small fields about few things, beside the points' words taken one by one."""

import itertools
import unittest

from groupings.answers import Chain, Side, Stay, Torn, Within
from tests.listing import all_couples, all_parts, most_that_stay


def in_one_group(grouping, *things):
    return any(set(things) <= set(group) for group in grouping)


def is_within(homes, one, other):
    if len(homes) != len(one) or not set(homes) <= set(range(len(other))):
        return False
    return not any(set(group) - set(other[home]) for group, home in zip(one, homes))


def is_torn(first, second, one, other):
    return first < second and in_one_group(one, first, second) and not in_one_group(other, first, second)


def is_chain(things, one, other, begin, end):
    if not things or things[0] != begin or things[-1] != end or len(set(things)) < len(things):
        return False
    if not set(things) <= set(sum(one, [])):
        return False
    return all(in_one_group(one, *step) or in_one_group(other, *step) for step in itertools.pairwise(things))


def is_side(things, one, other, begin, end):
    here = set(things)
    if list(things) != sorted(here) or begin not in here or end in here or not here <= set(sum(one, [])):
        return False
    return all(set(group) <= here or not set(group) & here for group in one + other)


def is_stay(pairs, mine, theirs, one, other):
    firsts, seconds = [pair[0] for pair in pairs], [pair[1] for pair in pairs]
    if sorted(set(pairs)) != list(pairs) or len(set(firsts)) < len(pairs) or len(set(seconds)) < len(pairs):
        return False
    if not set(firsts) <= set(range(len(one))) or not set(seconds) <= set(range(len(other))):
        return False
    if (len(mine), len(theirs)) != (len(one), len(other)) or min([0, *mine, *theirs]) < 0:
        return False
    for at, to in itertools.product(range(len(one)), range(len(other))):
        if mine[at] + theirs[to] < len(set(one[at]) & set(other[to])):
            return False
    return sum(mine) + sum(theirs) == sum(len(set(one[at]) & set(other[to])) for at, to in pairs)


class EachAnswerTest(unittest.TestCase):
    def compare(self, answer, wanted, *asked):
        self.assertIs(answer.shows(*asked), wanted, (vars(answer), asked))
        self.seen[wanted] = self.seen.get(wanted, 0) + 1

    def setUp(self):
        self.seen = {}

    def tearDown(self):
        self.assertEqual(sorted(self.seen), [False, True])

    def test_each_within(self):
        for many in range(4):
            for one, other in all_couples(many):
                for length in range(many + 2):
                    for homes in itertools.product(range(-1, many + 1), repeat=length):
                        self.compare(Within(list(homes)), is_within(homes, one, other), one, other)

    def test_each_torn(self):
        for many in range(6):
            for one, other in all_couples(many):
                for first, second in itertools.product(range(-1, many + 1), repeat=2):
                    self.compare(Torn(first, second), is_torn(first, second, one, other), one, other)

    def test_each_chain(self):
        for many in range(1, 4):
            for one, other in all_couples(many):
                for begin, end in itertools.product(range(many), repeat=2):
                    for length in range(many + 2):
                        for things in itertools.product(range(-1, many + 1), repeat=length):
                            wanted = is_chain(things, one, other, begin, end)
                            self.compare(Chain(list(things)), wanted, one, other, begin, end)

    def test_each_side(self):
        for many in range(1, 5):
            for one, other in all_couples(many):
                for begin, end in itertools.product(range(many), repeat=2):
                    for things in all_parts(range(-1, many + 1)):
                        self.compare(Side(things), is_side(things, one, other, begin, end), one, other, begin, end)

    def test_each_side_in_each_order(self):
        for one, other in all_couples(3):
            for begin, end in itertools.product(range(3), repeat=2):
                for length in range(4):
                    for things in itertools.product(range(3), repeat=length):
                        wanted = is_side(things, one, other, begin, end)
                        self.compare(Side(list(things)), wanted, one, other, begin, end)

    def test_each_stay(self):
        for many in range(3):
            ends = range(-1, many + 1)
            prices = [list(told) for k in range(many + 1) for told in itertools.product(ends, repeat=k)]
            rows = [list(told) for k in range(3) for told in itertools.product(itertools.product(ends, ends), repeat=k)]
            for one, other in all_couples(many):
                for pairs, mine, theirs in itertools.product(rows, prices, prices):
                    wanted = is_stay(pairs, mine, theirs, one, other)
                    self.compare(Stay(pairs, mine, theirs), wanted, one, other)

    def test_each_stay_of_three_things_whose_pairs_rise_and_whose_prices_are_few(self):
        for one, other in all_couples(3):
            counts = itertools.product(range(len(one)), range(len(other)))
            prices = itertools.product(range(4), repeat=len(one) + len(other))
            few = [told for told in prices if sum(told) <= 4]
            for pairs, told in itertools.product(all_parts(counts), few):
                mine, theirs = list(told[:len(one)]), list(told[len(one):])
                wanted = is_stay(pairs, mine, theirs, one, other)
                self.compare(Stay(pairs, mine, theirs), wanted, one, other)
                if wanted:
                    self.assertEqual(sum(told), most_that_stay(one, other))


if __name__ == "__main__":
    unittest.main()
