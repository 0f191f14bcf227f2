import itertools
import unittest

from tests import following
from tests.following import SHAPE, table
from tests.samples import ODD_VALUES, refused, refused_with
from wholepages.bounds import BoundsIndex
from wholepages.errors import BadShape, NoPlace
from wholepages.indexes import Index
from wholepages.shapes import Shape
from wholepages.standins import numbers_of, stand_in
from wholepages.tables import Table

FAR = 10 ** 18
NO_PAGES = [value for value in ODD_VALUES if not isinstance(value, int)] + [True, False, -1, 5, FAR, (0, 0)]


def entered(rows, span=1, shape=SHAPE):
    """An index in which the rows of a dict entered at their addresses."""
    index = BoundsIndex(shape, span=span)
    for address, row in rows.items():
        index.entered(address, row)
    return index


def of_span(span):
    return lambda shape: BoundsIndex(shape, span=span)


def all_bounds(index):
    return [index.bounds(page) for page in range(index.shape.pages)]


def known_of(entries, page, span):
    """For each column the values that entered in the page's range: whether None did, and the integers."""
    rows = [row for (at, _), row in entries if at // span == page // span]
    return [(None in column, sorted([value for value in column if value is not None])) for column in zip(*rows)]


def candidate_rows(known, predicate):
    """All rows with, in each column, None if it entered, and the least integer of each class between the ends."""
    columns = []
    for column, (missing, integers) in enumerate(known):
        numbers = numbers_of([predicate], column)
        found = [None] if missing else []
        classes = []
        for value in range(integers[0], integers[-1] + 1) if integers else []:
            if stand_in(value, numbers) not in classes:
                classes.append(stand_in(value, numbers))
                found.append(value)
        columns.append(found)
    return list(itertools.product(*columns)) if columns else []


class MakingBoundsIndexes(unittest.TestCase):
    def test_spans(self):
        for span in range(1, 17):
            index = BoundsIndex(SHAPE, span=span)
            self.assertIs(index.shape, SHAPE)
            self.assertIsInstance(index, Index)
            index.entered((2, 0), (1, 2))
            self.assertEqual([page for page in range(5) if index.bounds(page) is not None],
                             [page for page in range(5) if page // span == 2 // span])

    def test_the_span_may_be_left_out(self):
        index = BoundsIndex(SHAPE)
        index.entered((2, 0), (1, 2))
        self.assertEqual(all_bounds(index), [None, None, [(1, 1, False), (2, 2, False)], None, None])
        with self.assertRaises(TypeError):
            BoundsIndex(SHAPE, 1)

    def test_values_that_are_no_span(self):
        for value in [value for value in ODD_VALUES if not isinstance(value, int)] + [
                True, False, 0, -1, 17, FAR, -FAR]:
            with self.subTest(value=value):
                refused(self, BadShape, BoundsIndex, SHAPE, span=value)


class Bounds(unittest.TestCase):
    def test_the_example(self):
        made = Table.of(Shape(3, 2, chunk=2), [(3, 10), (7, None), (None, 4), None, (5, 5), (9, 1)])
        index = BoundsIndex(made.shape)
        index.refresh(made)
        self.assertEqual([index.bounds(0), index.bounds(1), index.held],
                         [[(3, 7, False), (10, 10, True)], [(None, None, True), (4, 4, False)], 5])
        hint = index.hint(("<", 0, 8))
        self.assertEqual([list(hint.bitmap), index.pair((2, 0), ("<", 0, 8)), index.pair((0, 0), ("<", 0, 8))],
                         [[(2, 2), (0, 0), (1, 1)], ((5, 1), (8, 1)), None])

    def test_before_a_row_entered(self):
        for span in (1, 2, 16):
            self.assertEqual(all_bounds(BoundsIndex(SHAPE, span=span)), [None] * 5)

    def test_none_alone_integers_and_both(self):
        for values, bound in [([None], (None, None, True)), ([None, None], (None, None, True)), ([0], (0, 0, False)),
                              ([4, -2], (-2, 4, False)), ([-2, 4], (-2, 4, False)), ([None, 7], (7, 7, True)),
                              ([7, None], (7, 7, True)), ([5, None, 3], (3, 5, True)), ([0, 5, 0, 3], (0, 5, False)),
                              ([FAR, -FAR], (-FAR, FAR, False)), ([0, None, 0], (0, 0, True))]:
            for column in (0, 1):
                index = BoundsIndex(SHAPE, span=2)
                for address, value in zip(SHAPE.addresses(), values):
                    index.entered(address, (value, 9) if column == 0 else (9, value))
                found = index.bounds(1)
                self.assertEqual([found[column], found[1 - column]], [bound, (9, 9, False)])
                self.assertEqual([found.__class__, found[0].__class__], [list, tuple])
                self.assertIs(found[column][2].__class__, bool)
                self.assertEqual([index.bounds(0), index.bounds(2)], [found, None])

    def test_rows_that_leave_change_nothing_until_refresh(self):
        made = table()
        index = BoundsIndex(SHAPE)
        index.refresh(made)
        before = all_bounds(index)
        self.assertEqual(before, [[(3, 7, False), (10, 10, True)], [(None, None, True), (4, 4, False)],
                                  [(5, 9, False), (1, 5, False)], None, [(3, 3, True), (4, 4, True)]])
        for address in [address for address, _ in made.walk()]:
            index.left(address, made.take(address))
            self.assertEqual(all_bounds(index), before)
        self.assertEqual([index.held, list(index.hint(("<", 0, 8)).bitmap)],
                         [0, [(2, 2), (0, 0), (1, 1), (0, 0), (1, 1)]])
        index.entered((1, 0), (2, None))
        self.assertEqual(index.bounds(1), [(2, 2, True), (4, 4, True)])
        index.refresh(made)
        self.assertEqual([all_bounds(index), index.held], [[None] * 5, 0])

    def test_the_last_range_may_be_shorter(self):
        rows = {(4, 1): (1, 2), (0, 0): (3, 4), (1, 0): (5, 6), (2, 1): (7, 8), (3, 0): (9, 10)}
        for span, groups in [(1, [[0], [1], [2], [3], [4]]), (2, [[0, 1], [2, 3], [4]]), (3, [[0, 1, 2], [3, 4]]),
                             (4, [[0, 1, 2, 3], [4]]), (5, [[0, 1, 2, 3, 4]]), (16, [[0, 1, 2, 3, 4]])]:
            index = entered(rows, span)
            for group in groups:
                inside = [row for (page, _), row in rows.items() if page in group]
                expected = [(min(column), max(column), False) for column in zip(*inside)]
                self.assertEqual([index.bounds(page) for page in group], [expected] * len(group))
        index = entered({(4, 1): (3, 3)}, 2)
        self.assertEqual(list(index.hint(("<", 0, 5)).bitmap), [(0, 0)] * 4 + [(2, 2)])

    def test_values_that_are_no_page(self):
        for index in (BoundsIndex(SHAPE), entered({(0, 0): (1, 1)}, 16)):
            for value in NO_PAGES:
                refused_with(self, NoPlace, "place", value, index.bounds, value)

    def test_each_column_count(self):
        for columns in (1, 2, 3):
            index = entered({(0, 0): tuple(range(columns))}, shape=Shape(1, 1, columns=columns))
            self.assertEqual(index.bounds(0), [(at, at, False) for at in range(columns)])

    def test_the_list_may_be_changed(self):
        index = entered({(0, 0): (1, 2)})
        found = index.bounds(0)
        index.entered((0, 1), (5, None))
        self.assertEqual(found, [(1, 1, False), (2, 2, False)])
        index.bounds(0).clear()
        self.assertEqual(index.bounds(0), [(1, 5, False), (2, 2, True)])


class Hints(unittest.TestCase):
    def test_hints_and_pairs(self):
        for span in (1, 2, 3, 16):
            index = BoundsIndex(SHAPE, span=span)
            told = []

            class Noting(BoundsIndex):
                def entered(self, address, row):
                    told.append((address, row))

            made = following.following(index)
            following.following(Noting(SHAPE))

            def is_in_set(address, row):
                known = known_of(told, address[0], span)
                inside = [missing if value is None else bool(integers) and integers[0] <= value <= integers[-1]
                          for value, (missing, integers) in zip(row, known)]
                return bool(known) and all(inside)

            def listed(address, predicate):
                return candidate_rows(known_of(told, address[0], span), predicate)

            following.check_hints(self, index, made, is_in_set, listed)

    def test_candidates_at_the_ends_of_a_class(self):
        predicate = ("either", ("both", (">=", 0, 3), ("<", 0, 9)), ("missing", 1))
        for low, high, pair in [(3, 8, None), (2, 8, ((3, 1), (2, 1))), (3, 9, ((3, 1), (9, 1))),
                                (-FAR, 3, ((3, 1), (-FAR, 1))), (8, FAR, ((8, 1), (9, 1))), (9, 9, None), (2, 2, None),
                                (4, 8, None), (4, 9, ((4, 1), (9, 1))), (5, 10, ((5, 1), (9, 1))), (8, 8, None),
                                (-FAR, FAR, ((3, 1), (-FAR, 1)))]:
            index = entered({(0, 0): (low, 1), (0, 1): (high, 1)})
            self.assertEqual([index.pair((0, 0), predicate), index.pair((0, 1), predicate)], [pair, pair])
            self.assertEqual(index.hint(predicate).bitmap.mark((0, 1)), 1 if pair else 2 if 3 <= low < 9 else 0)

    def test_one_integer(self):
        for value in range(0, 8):
            index = entered({(0, 0): (value, value)})
            for number in range(1, 7):
                self.assertEqual(list(index.hint(("<", 0, number)).bitmap)[0], (2, 2) if value < number else (0, 0))
                self.assertIs(index.pair((0, 0), ("<", 0, number)), None)
                self.assertEqual(index.pair((0, 1), ("<", 0, number)), None)

    def test_great_gaps(self):
        index = entered({(0, 0): (-FAR, FAR), (0, 1): (FAR, -FAR), (1, 0): (-FAR, None)})
        self.assertEqual(index.pair((0, 0), ("=", 0, 0)), ((0, -FAR), (-FAR, -FAR)))
        self.assertEqual(index.pair((0, 0), (">", 1, 123)), ((-FAR, 124), (-FAR, -FAR)))
        self.assertEqual(index.pair((0, 1), ("both", ("!=", 0, FAR - 1), (">", 0, 7))), ((8, -FAR), (-FAR, -FAR)))
        self.assertEqual(list(index.hint(("<", 0, FAR - 1)).bitmap), [(1, 1), (2, 2)] + [(0, 0)] * 3)
        self.assertEqual(list(index.hint(("<=", 0, 1 - FAR)).bitmap), [(1, 1), (2, 2)] + [(0, 0)] * 3)
        self.assertIs(index.pair((1, 0), ("<", 0, 1 - FAR)), None)

    def test_none_comes_first(self):
        index = entered({(0, 0): (None, 5), (0, 1): (4, None)})
        self.assertEqual(index.pair((0, 0), ("<", 0, 9)), ((4, None), (None, None)))
        self.assertEqual(index.pair((0, 0), ("missing", 1)), ((None, None), (None, 5)))
        self.assertIs(index.pair((0, 0), ("either", ("missing", 0), ("<", 0, 5))), None)

    def test_a_value_that_never_entered_between_the_ends(self):
        index = entered({(0, 0): (1, 1), (0, 1): (9, 9)})
        self.assertEqual(list(index.hint(("=", 0, 5)).bitmap)[0], (1, 1))
        self.assertEqual(index.pair((0, 0), ("=", 0, 5)), ((5, 1), (1, 1)))

    def test_the_classes_are_those_of_the_asked_predicate_alone(self):
        index = entered({(0, 0): (1, 1), (0, 1): (9, 9)})
        index.hint(("=", 0, 5))
        self.assertEqual(index.pair((0, 0), (">", 1, 4)), ((1, 5), (1, 1)))

    def test_held_and_refresh(self):
        for span in (1, 2, 16):
            following.check_refresh(self, of_span(span), all_bounds)
            following.check_told_lists(self, of_span(span), all_bounds)
            following.check_held(self, of_span(span))

    def test_refusals(self):
        for span in (1, 2):
            index = BoundsIndex(SHAPE, span=span)
            following.check_refusals(self, index)
            index.refresh(table())
            following.check_refusals(self, index)
