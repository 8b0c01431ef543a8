"""The refusals: their names, and which class stands straight under which."""

import unittest

from groupings.errors import BadCount, BadGrouping, BadNumber, BadThing, GroupError, Unlike

REFUSALS = (BadGrouping, BadThing, BadCount, BadNumber, Unlike)


class ErrorsTest(unittest.TestCase):
    def test_group_error_is_straight_under_value_error(self):
        self.assertEqual(GroupError.__bases__, (ValueError,))

    def test_each_refusal_is_straight_under_group_error(self):
        for refusal in REFUSALS:
            with self.subTest(refusal=refusal.__name__):
                self.assertEqual(refusal.__bases__, (GroupError,))

    def test_the_refusals_are_five_classes(self):
        self.assertEqual(len(set(REFUSALS)), 5)
        self.assertEqual(
            [refusal.__name__ for refusal in REFUSALS],
            ["BadGrouping", "BadThing", "BadCount", "BadNumber", "Unlike"],
        )

    def test_a_refusal_is_caught_as_what_it_stands_under(self):
        for refusal in REFUSALS:
            for above in (refusal, GroupError, ValueError):
                with self.subTest(refusal=refusal.__name__, above=above.__name__):
                    with self.assertRaises(above):
                        raise refusal("so")

    def test_no_refusal_is_caught_as_another(self):
        for refusal in REFUSALS:
            for another in REFUSALS:
                with self.subTest(refusal=refusal.__name__, another=another.__name__):
                    self.assertEqual(issubclass(refusal, another), refusal == another)


if __name__ == "__main__":
    unittest.main()
