import itertools
import unittest

from wholepages.predicates import truth
from wholepages.standins import numbers_of, stand_in, stand_ins, within

MOST = 10 ** 18
SIGNS = ["<", "<=", "=", "!=", ">=", ">"]
LISTS = [list(numbers) for many in range(5) for numbers in itertools.combinations(range(-3, 5), many)]
LISTS += [[-40, 40], [3, 5, 6, 30], [-9, 9, 10], [0]]


def compared(value, numbers):
    """How a value compares with all the numbers: the same for all values of a class."""
    return [value is None] + [truth((sign, 0, number), (value,)) for number in numbers for sign in SIGNS]


def classes(numbers):
    """The classes of integers, found by comparing: lists of integers from -50 to 50."""
    grouped = {}
    for value in range(-50, 51):
        grouped.setdefault(repr(compared(value, numbers)), []).append(value)
    return list(grouped.values())


def stand_in_of(values, numbers):
    if not numbers:
        return 0
    return values[-1] if values[-1] < numbers[0] else values[0]


class NumbersOf(unittest.TestCase):
    def test_different_numbers_in_ascending_order(self):
        predicates = [(">", 0, 7), ("<", 0, -2), ("=", 1, 3), ("!=", 0, 7), ("<=", 0, 0), (">=", 0, 1 - MOST)]
        self.assertEqual(numbers_of(predicates, 0), [1 - MOST, -2, 0, 7])
        self.assertEqual(numbers_of(predicates, 1), [3])

    def test_each_sign(self):
        for sign in SIGNS:
            self.assertEqual(numbers_of([(sign, 0, 4)], 0), [4])

    def test_a_column_that_none_mentions(self):
        for predicates in ([], [("both",)], [("<", 0, 5), ("missing", 1)], [("untrue", ("=", 2, 1))]):
            self.assertEqual(numbers_of(predicates, 1), [])

    def test_at_any_depth(self):
        deep = ("both", ("<", 0, 9), ("either", ("negation", ("=", 0, 4)), ("untrue", ("both", (">", 1, 4)))))
        self.assertEqual([numbers_of([deep], 0), numbers_of([deep], 1)], [[4, 9], [4]])
        again = ("negation", ("negation", ("either", ("missing", 0), ("=", 0, 9), ("=", 0, 1), ("=", 2, 0))))
        self.assertEqual([numbers_of([deep, again], at) for at in range(3)], [[1, 4, 9], [4], [0]])

    def test_the_list_stays_and_what_returns_may_be_changed(self):
        predicates = [("<", 0, 5), ("<", 0, 3)]
        numbers_of(predicates, 0).clear()
        self.assertEqual(numbers_of(predicates, 0), [3, 5])
        self.assertEqual(predicates, [("<", 0, 5), ("<", 0, 3)])


class StandIns(unittest.TestCase):
    def test_the_examples(self):
        self.assertEqual([stand_ins([3, 5]), stand_ins([3, 4]), stand_ins([])],
                         [[None, 2, 3, 4, 5, 6], [None, 2, 3, 4, 5], [None, 0]])
        self.assertEqual([stand_in(-100, [3, 5]), stand_in(4, [3, 5]), stand_in(17, [])], [2, 4, 0])

    def test_one_number(self):
        self.assertEqual(stand_ins([7]), [None, 6, 7, 8])
        self.assertEqual([stand_in(value, [7]) for value in (None, -MOST, 6, 7, 8, MOST)], [None, 6, 6, 7, 8, 8])

    def test_gaps_of_one_integer_and_great_gaps(self):
        self.assertEqual(stand_ins([1, 3, 30]), [None, 0, 1, 2, 3, 4, 30, 31])
        self.assertEqual([stand_in(value, [1, 3, 30]) for value in (0, 2, 4, 17, 29, 31)], [0, 2, 4, 4, 4, 31])

    def test_the_greatest_numbers(self):
        ends = [1 - MOST, MOST - 1]
        self.assertEqual(stand_ins(ends), [None, -MOST, 1 - MOST, 2 - MOST, MOST - 1, MOST])
        self.assertEqual([stand_in(value, ends) for value in (-MOST, 1 - MOST, 0, MOST - 1, MOST)],
                         [-MOST, 1 - MOST, 2 - MOST, MOST - 1, MOST])

    def test_all_classes_have_theirs(self):
        for numbers in LISTS:
            expected = [None] + [stand_in_of(values, numbers) for values in classes(numbers)]
            self.assertEqual(stand_ins(numbers), expected)

    def test_each_value_has_that_of_its_class(self):
        for numbers in LISTS:
            self.assertIs(stand_in(None, numbers), None)
            for values in classes(numbers):
                found = {stand_in(value, numbers) for value in values}
                self.assertEqual(found, {stand_in_of(values, numbers)})

    def test_a_stand_in_compares_as_the_value_does(self):
        for numbers in LISTS:
            for value in [None, -MOST, MOST] + list(range(-10, 12)):
                self.assertEqual(compared(stand_in(value, numbers), numbers), compared(value, numbers))
                self.assertIn(stand_in(value, numbers), stand_ins(numbers))

    def test_arguments_stay_and_what_returns_may_be_changed(self):
        for numbers in ([], [3, 5]):
            kept = list(numbers)
            expected = stand_ins(numbers)
            stand_ins(numbers).clear()
            stand_in(4, numbers)
            self.assertEqual([numbers, stand_ins(numbers)], [kept, expected])


class Within(unittest.TestCase):
    def test_the_examples(self):
        self.assertEqual([within([3, 5], 4, 9), within([], 4, 9)], [[4, 5, 6], [4]])

    def test_one_integer(self):
        for value in range(0, 8):
            self.assertEqual(within([3, 5], value, value), [value])

    def test_great_gaps(self):
        self.assertEqual(within([0, 100], -MOST, MOST), [-MOST, 0, 1, 100, 101])
        self.assertEqual(within([0, 100], 50, 99), [50])
        self.assertEqual(within([0, 100], 50, 100), [50, 100])
        self.assertEqual(within([1 - MOST, MOST - 1], -MOST, MOST), [-MOST, 1 - MOST, 2 - MOST, MOST - 1, MOST])

    def test_below_and_above_all_numbers(self):
        self.assertEqual([within([3, 5], -9, 2), within([3, 5], 6, 9), within([3, 5], 7, 9)], [[-9], [6], [7]])

    def test_the_least_of_each_class(self):
        for numbers in LISTS:
            grouped = classes(numbers)
            for low, high in itertools.combinations_with_replacement(range(-6, 8), 2):
                there = [[value for value in values if low <= value <= high] for values in grouped]
                self.assertEqual(within(numbers, low, high), [values[0] for values in there if values])

    def test_arguments_stay_and_what_returns_may_be_changed(self):
        numbers = [3, 5]
        within(numbers, 0, 9).clear()
        self.assertEqual([within(numbers, 0, 9), numbers], [[0, 3, 4, 5, 6], [3, 5]])
