"""What is an integer, a list of integers, a lot, and what stands twice."""

import unittest

from kindtells.checks import are_numbers, first_twice, is_integer, is_lot, is_within
from tests.helpers import GREAT, NOT_INTEGERS, NOT_LISTS, Case


class Checks(Case):
    def test_is_integer(self):
        for value in (0, 1, -1, 5, GREAT, -GREAT):
            self.assertIs(is_integer(value), True)
        for value in NOT_INTEGERS:
            self.assertIs(is_integer(value), False, value)
        self.assertIs(is_integer(value=3), True)

    def test_is_within(self):
        for value in (2, 3, 4):
            self.assertIs(is_within(value, 2, 4), True)
        for value in (1, 5, -3, GREAT, -GREAT):
            self.assertIs(is_within(value, 2, 4), False)
        self.assertIs(is_within(3, 4, 2), False)

    def test_is_within_without_bounds(self):
        self.assertEqual([is_within(value, None, 0) for value in (-GREAT, 0, 1)], [True, True, False])
        self.assertEqual([is_within(value, 0, None) for value in (-1, 0, GREAT)], [False, True, True])
        self.assertIs(is_within(-GREAT, None, None), True)
        self.assertIs(is_within(value=1, least=1, most=1), True)

    def test_is_within_is_no_integer(self):
        for value in NOT_INTEGERS:
            for least, most in ((0, 5), (None, 5), (0, None), (None, None)):
                self.assertIs(is_within(value, least, most), False, value)

    def test_are_numbers(self):
        for value in ([], (), [0], (3, 3), [-1, GREAT], list(range(10000))):
            self.assertIs(are_numbers(value), True)
        for value in NOT_LISTS + ([1, None], (1, "2"), [[1]], ((),), [1.0], (False,), [0, True]):
            self.assertIs(are_numbers(value), False, value)
        self.assertIs(are_numbers(value=[1]), True)

    def test_is_lot(self):
        for value, many in (([], 0), ((), 3), ([0], 1), ((0, 1, 2), 3), ([0, 3], 4), ((2,), 3)):
            self.assertIs(is_lot(value, many), True, value)
        for value, many in (([0], 0), ([1, 0], 2), ((0, 0), 2), ([2], 2), ([-1, 0], 2), ([0, GREAT], 2)):
            self.assertIs(is_lot(value, many), False, value)
        for value in NOT_LISTS + ([True], (0, True), [None], [[0]], ["0"], [0, 1.0]):
            self.assertIs(is_lot(value, 4), False, value)
        self.assertIs(is_lot(value=[0], many=1), True)

    def test_first_twice(self):
        for values, twice in (
                ([], None), ([1], None), ([1, 2, 3], None), ([1, 2, 2, 1], 2), ((3, 3, 3), 3), ([0, 1, 0], 0),
                (["a", "b", "a"], "a"), (["1", 1], None), ([(1,), 1], None), ([GREAT, -GREAT, GREAT], GREAT),
                ([(1, 2), (2, 1), (1, 2)], (1, 2)), ([(), ()], ()), ([("a",), "a"], None)):
            self.assertEqual(first_twice(values), twice)
        self.assertEqual(first_twice(values=[0, 0]), 0)

    def test_first_twice_takes_lists_for_tuples(self):
        self.assertEqual(first_twice([[1], (1,)]), (1,))
        self.assertEqual(repr(first_twice([(1,), [1]])), "(1,)")
        self.assertEqual(repr(first_twice([(1, [2, [3]]), [1, (2, (3,))]])), "(1, (2, (3,)))")
        self.assertIsNone(first_twice([[1], [[1]]]))

    def test_first_twice_of_no_list(self):
        for values in NOT_LISTS + ("aa", {"a": 1, "b": 1}):
            self.assertIsNone(first_twice(values))

    def test_first_twice_of_many(self):
        self.assertIsNone(first_twice(list(range(10000))))
        self.assertEqual(first_twice(list(range(9999)) + [5000]), 5000)
        deep = 1
        for _ in range(28):
            deep = (deep,)
        self.assertEqual(first_twice([deep, 1, deep]), deep)


if __name__ == "__main__":
    unittest.main()
