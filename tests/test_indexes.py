import unittest

from tests import following
from tests.following import GRID, NO_PREDICATES, PREDICATES, SHAPE, WIDE, table
from tests.samples import refused, refused_with
from wholepages.errors import BadPredicate, TooWide
from wholepages.hints import Hint
from wholepages.indexes import Index, PartialIndex
from wholepages.predicates import holds
from wholepages.shapes import Shape
from wholepages.tables import Table
from wholepages.worlds import boxes


class TheBase(unittest.TestCase):
    def test_held(self):
        index = Index(SHAPE)
        self.assertIs(index.shape, SHAPE)
        self.assertEqual(index.held, 0)
        for many, (address, row) in enumerate(table().walk()):
            self.assertIsNone(index.entered(address, row))
            self.assertEqual(index.held, many + 1)
        self.assertIsNone(index.left((0, 0), (3, 10)))
        self.assertEqual(index.held, 6)

    def test_refresh(self):
        index = Index(SHAPE)
        index.entered((0, 0), (1, 1))
        for made, held in ((table(), 7), (table(), 7), (Table(SHAPE), 0)):
            self.assertIsNone(index.refresh(made))
            self.assertEqual(index.held, held)

    def test_refresh_enters_every_row_in_order(self):
        told = []

        class Listening(Index):
            def entered(self, address, row):
                told.append((address, row))

        Listening(SHAPE).refresh(table())
        self.assertEqual(told, list(table().walk()))

    def test_the_kinds_are_indexes(self):
        self.assertIsInstance(PartialIndex(SHAPE, ("both",)), Index)


class PartialIndexes(unittest.TestCase):
    def test_hints_and_pairs(self):
        for own in PREDICATES:
            index = PartialIndex(SHAPE, own)
            made = following.following(index)
            self.assertEqual(index.listing(), [address for address, row in made.walk() if holds(own, row)])

            def is_in_set(address, row):
                kept = address in made and holds(own, made.row_at(address))
                return holds(own, row) == kept

            following.check_hints(self, index, made, is_in_set, lambda address, predicate: [
                box for box in boxes([own, predicate]) if is_in_set(address, box)])

    def test_before_a_row_entered(self):
        for own in PREDICATES:
            index = PartialIndex(SHAPE, own)
            self.assertEqual(index.listing(), [])
            following.check_hints(self, index, Table(SHAPE), lambda address, row: not holds(own, row),
                                  lambda address, predicate: [box for box in boxes([own, predicate])
                                                              if not holds(own, box)])

    def test_own_predicates_that_hold_for_every_row_or_for_none(self):
        made = table()
        always, never = PartialIndex(SHAPE, ("both",)), PartialIndex(SHAPE, ("either",))
        for index in (always, never):
            index.refresh(made)
        self.assertEqual([always.listing(), never.listing()], [[address for address, _ in made.walk()], []])
        exact = Hint.exact(("both",), made)
        self.assertEqual(list(always.hint(("both",)).bitmap), list(exact.bitmap))
        self.assertEqual([[mark // 2 for mark in page] for page in exact.bitmap],
                         [list(page) for page in always.hint(("<", 0, 5)).bitmap])
        self.assertEqual([always.pair((0, 0), ("<", 0, 5)), always.pair((1, 1), ("<", 0, 5))],
                         [((4, None), (None, None)), None])
        self.assertEqual([list(never.hint(predicate).bitmap) for predicate in (("both",), ("<", 0, 5), ("either",))],
                         [[(mark, mark)] * 5 for mark in (2, 1, 0)])
        self.assertEqual(never.pair((1, 1), ("<", 0, 5)), ((4, None), (None, None)))

    def test_the_own_predicate_and_its_opposite(self):
        made = table()
        index = PartialIndex(SHAPE, ("<", 0, 6))
        index.refresh(made)
        self.assertEqual(index.listing(), [(0, 0), (2, 0), (4, 1)])
        self.assertEqual(list(index.hint(("<", 0, 6)).bitmap), [(2, 0), (0, 0), (2, 0), (0, 0), (0, 2)])
        self.assertEqual(list(index.hint(("untrue", ("<", 0, 6))).bitmap), [(0, 2), (2, 2), (0, 2), (2, 2), (2, 0)])
        self.assertEqual(list(index.hint(("<", 0, 8)).bitmap), [(2, 1), (1, 1), (2, 1), (1, 1), (1, 2)])
        self.assertEqual([index.pair((0, 1), ("<", 0, 8)), index.pair((0, 0), ("<", 0, 3))],
                         [((6, None), (None, None)), ((2, None), (3, None))])

    def test_a_change_is_left_and_entered(self):
        index = PartialIndex(SHAPE, ("<", 0, 6))
        index.refresh(table())
        for old, new in (((5, 5), (6, 5)), ((6, 5), (None, 1)), ((None, 1), (5, None)), ((5, None), (4, 4))):
            index.left((2, 0), old)
            self.assertEqual(index.listing(), [(0, 0), (4, 1)])
            index.entered((2, 0), new)
            self.assertEqual([(2, 0) in index.listing(), index.held], [holds(("<", 0, 6), new), 7])

    def test_listing_in_order(self):
        index = PartialIndex(SHAPE, ("<", 0, 6))
        for address in ((4, 1), (0, 1), (2, 0), (0, 0), (3, 1), (3, 0)):
            index.entered(address, (1, 1))
        self.assertEqual(index.listing(), [(0, 0), (0, 1), (2, 0), (3, 0), (3, 1), (4, 1)])
        index.listing().clear()
        self.assertEqual(len(index.listing()), 6)

    def test_columns(self):
        for columns in (1, 3):
            index = PartialIndex(Shape(1, 2, columns=columns), ("missing", columns - 1))
            index.entered((0, 1), (None,) * columns)
            self.assertEqual(list(index.hint(("missing", columns - 1)).bitmap), [(0, 2)])
            self.assertEqual(len(index.pair((0, 0), ("<", 0, 5))[0]), columns)

    def test_held_and_refresh(self):
        for own in PREDICATES:
            following.check_refresh(self, lambda shape: PartialIndex(shape, own), lambda index: index.listing())
            following.check_told_lists(self, lambda shape: PartialIndex(shape, own), lambda index: index.listing())
        following.check_held(self, lambda shape: PartialIndex(shape, ("<", 0, 6)))

    def test_refusals(self):
        index = PartialIndex(SHAPE, ("both",))
        following.check_refusals(self, index)
        index.refresh(table())
        following.check_refusals(self, index)

    def test_values_that_are_no_predicate(self):
        for bad in NO_PREDICATES:
            refused_with(self, BadPredicate, "predicate", bad, PartialIndex, SHAPE, bad)
        refused_with(self, BadPredicate, "predicate", PREDICATES[1], PartialIndex, Shape(1, 1, columns=1), PREDICATES[1])
        PartialIndex(Shape(1, 1, columns=3), ("missing", 2))

    def test_too_wide_with_the_own_predicate(self):
        index = PartialIndex(SHAPE, WIDE[0])
        for call in (lambda: index.hint(WIDE[1]), lambda: index.pair((0, 0), WIDE[1])):
            raised = refused(self, TooWide, call)
            self.assertEqual(raised.boxes, 18 * 18)
        self.assertEqual(index.pair((0, 0), ("<", 1, 5)), ((None, 4), (None, None)))
        refused_with(self, BadPredicate, "predicate", "bad", index.hint, "bad")

    def test_the_grid_has_rows_of_all_classes(self):
        for own in PREDICATES:
            for predicate in PREDICATES:
                found = {(holds(own, row), holds(predicate, row)) for row in GRID}
                self.assertEqual(found, {(holds(own, row), holds(predicate, row)) for row in boxes([own, predicate])})
