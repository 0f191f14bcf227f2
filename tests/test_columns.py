import unittest

from tests import following
from tests.following import SHAPE, table
from tests.samples import ODD_VALUES, refused_with
from wholepages.columns import ColumnIndex
from wholepages.errors import NoPlace
from wholepages.hints import Hint
from wholepages.indexes import Index
from wholepages.shapes import Shape
from wholepages.standins import numbers_of, stand_in
from wholepages.tables import Table
from wholepages.worlds import boxes


def with_value(box, column, value):
    return box[:column] + (value,) + box[column + 1:]


def of_column(column):
    return lambda shape: ColumnIndex(shape, column)


class MakingColumnIndexes(unittest.TestCase):
    def test_columns_of_the_shape(self):
        for columns in (1, 2, 3):
            shape = Shape(1, 2, columns=columns)
            for column in range(columns):
                index = ColumnIndex(shape, column)
                self.assertIs(index.shape, shape)
                self.assertIsInstance(index, Index)
                index.entered((0, 1), tuple(range(columns)))
                self.assertEqual(index.listing(), [(column, (0, 1))])
                self.assertEqual(list(index.hint(("=", column, column)).bitmap), [(0, 2)])

    def test_values_that_are_no_column(self):
        for columns in (1, 2, 3):
            shape = Shape(1, 2, columns=columns)
            for value in [value for value in ODD_VALUES if not isinstance(value, int)] + [
                    True, False, -1, columns, 10 ** 30, (0, 0)]:
                refused_with(self, NoPlace, "place", value, ColumnIndex, shape, value)


class Listing(unittest.TestCase):
    def test_none_first_then_by_value_then_by_address(self):
        index = ColumnIndex(SHAPE, 0)
        for address, value in [((4, 1), 3), ((2, 1), None), ((0, 1), 3), ((3, 0), -7), ((1, 0), None), ((0, 0), 10 ** 18),
                               ((2, 0), 0), ((4, 0), 3), ((1, 1), -10 ** 18), ((3, 1), None)]:
            index.entered(address, (value, None))
        self.assertEqual(index.listing(), [
            (None, (1, 0)), (None, (2, 1)), (None, (3, 1)), (-10 ** 18, (1, 1)), (-7, (3, 0)), (0, (2, 0)),
            (3, (0, 1)), (3, (4, 0)), (3, (4, 1)), (10 ** 18, (0, 0))])
        index.listing().clear()
        self.assertEqual(len(index.listing()), 10)

    def test_all_of_one_value(self):
        for value in (None, 0, 5):
            index = ColumnIndex(SHAPE, 1)
            for address in reversed(SHAPE.addresses()):
                index.entered(address, (7, value))
            self.assertEqual(index.listing(), [(value, address) for address in SHAPE.addresses()])

    def test_no_row(self):
        self.assertEqual(ColumnIndex(SHAPE, 0).listing(), [])

    def test_a_change_is_left_and_entered(self):
        index = ColumnIndex(SHAPE, 0)
        index.refresh(table())
        self.assertEqual(index.listing(), [(None, (1, 0)), (None, (4, 0)), (3, (0, 0)), (3, (4, 1)), (5, (2, 0)),
                                           (7, (0, 1)), (9, (2, 1))])
        index.left((0, 0), (3, 10))
        index.entered((0, 0), (None, 10))
        index.left((1, 0), (None, 4))
        index.left((2, 1), (9, 1))
        index.entered((2, 1), (3, 1))
        self.assertEqual(index.listing(), [(None, (0, 0)), (None, (4, 0)), (3, (2, 1)), (3, (4, 1)), (5, (2, 0)),
                                           (7, (0, 1))])
        self.assertEqual(index.held, 6)


class Hints(unittest.TestCase):
    def test_hints_and_pairs(self):
        for column in (0, 1):
            index = ColumnIndex(SHAPE, column)
            made = following.following(index)

            def is_in_set(address, row):
                return address in made and made.row_at(address)[column] == row[column]

            def listed(address, predicate):
                if address not in made:
                    return []
                value = made.row_at(address)[column]
                start = stand_in(value, numbers_of([predicate], column))
                return [with_value(box, column, value) for box in boxes([predicate]) if box[column] == start]

            following.check_hints(self, index, made, is_in_set, listed)

    def test_before_a_row_entered(self):
        index = ColumnIndex(SHAPE, 0)
        following.check_hints(self, index, Table(SHAPE), lambda address, row: False, lambda address, predicate: [])

    def test_predicates_of_the_column_alone_leave_no_maybe(self):
        for column, predicates in [(0, [("<", 0, 5), ("missing", 0), ("untrue", ("<", 0, 8)), ("both",), ("either",)]),
                                   (1, [(">=", 1, 5), ("negation", ("<", 1, 3)), ("missing", 1), ("both",)])]:
            index = ColumnIndex(SHAPE, column)
            index.refresh(table())
            for predicate in predicates:
                self.assertEqual(list(index.hint(predicate).bitmap), list(Hint.exact(predicate, table()).bitmap))

    def test_the_value_itself_in_the_place_of_its_stand_in(self):
        index = ColumnIndex(Shape(1, 8, columns=3), 1)
        predicate = ("both", (">", 1, 3), ("<", 1, 9), ("<", 0, 5))
        for slot, value in enumerate([5, 4, 8, 3, 9, -10 ** 18, None]):
            index.entered((0, slot), (1, value, 1))
        for slot, value in enumerate([5, 4, 8]):
            self.assertEqual(index.pair((0, slot), predicate), ((4, value, None), (None, value, None)))
        for slot in range(3, 8):
            self.assertIs(index.pair((0, slot), predicate), None)
        self.assertEqual(list(index.hint(predicate).bitmap), [(1, 1, 1, 0, 0, 0, 0, 0)])
        far = ("either", ("<", 0, 5), (">", 1, 9))
        self.assertEqual(index.pair((0, 5), far), ((4, -10 ** 18, None), (None, -10 ** 18, None)))
        self.assertEqual(index.pair((0, 6), far), ((4, None, None), (None, None, None)))

    def test_a_column_that_the_predicate_does_not_mention(self):
        index = ColumnIndex(SHAPE, 1)
        index.entered((0, 0), (3, 77))
        index.entered((0, 1), (3, None))
        self.assertEqual(list(index.hint(("<", 0, 5)).bitmap), [(1, 1)] + [(0, 0)] * 4)
        self.assertEqual([index.pair((0, 0), ("<", 0, 5)), index.pair((0, 1), ("<", 0, 5))],
                         [((4, 77), (None, 77)), ((4, None), (None, None))])

    def test_held_and_refresh(self):
        for column in (0, 1):
            following.check_refresh(self, of_column(column), lambda index: index.listing())
            following.check_told_lists(self, of_column(column), lambda index: index.listing())
            following.check_held(self, of_column(column))

    def test_refusals(self):
        for column in (0, 1):
            index = ColumnIndex(SHAPE, column)
            following.check_refusals(self, index)
            index.refresh(table())
            following.check_refusals(self, index)
