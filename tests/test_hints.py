import itertools
import unittest

from tests.samples import ODD_VALUES, agrees_with, every_mark, other_shapes, refused, refused_with
from wholepages.bitmaps import Bitmap
from wholepages.errors import BadPredicate, NoPlace, OtherShape
from wholepages.hints import Hint
from wholepages.predicates import holds
from wholepages.shapes import Shape
from wholepages.tables import Table

SHAPE = Shape(3, 2, chunk=2)
ROWS = [(3, 10), (7, None), (None, 4), None, (5, 5), (9, 1)]
A = [[2, 0], [1, 1], [0, 0]]
PREDICATES = [("<", 0, 5), ("missing", 1), ("both",), ("either",), ("negation", ("<", 0, 5)),
              ("untrue", ("<", 0, 5)), ("both", (">", 0, 3), ("<=", 1, 5))]
NO_PREDICATES = [None, 5, "missing", ["<", 0, 5], ("<", 0), ("<", 2, 5), ("<", 0, 10 ** 18), ("missing", True),
                 ("both", ["<", 0, 5]), ("negation",), ("both", *[("both",)] * 16), (), ("=", 0, None)]
NO_PAGES = [value for value in ODD_VALUES if not isinstance(value, int)] + [True, False, -1, 3]


def nodes(many):
    """A predicate of so many nodes."""
    return ("either", *[("missing", 1)] * (many - 1))


def table():
    return Table.of(SHAPE, ROWS)


def joins(h, k):
    """The three joined hints, each with the truth that its predicate should have."""
    return [(h & k, lambda t, u: t and u), (h | k, lambda t, u: t or u), (h - k, lambda t, u: t and not u)]


class MakingHints(unittest.TestCase):
    def test_fields(self):
        bitmap = Bitmap(SHAPE, A)
        for predicate in PREDICATES + [nodes(16)]:
            hint = Hint(predicate, bitmap)
            self.assertEqual(hint.predicate, predicate)
            self.assertIs(hint.bitmap, bitmap)
        self.assertEqual(tuple(Hint.__slots__), ("predicate", "bitmap"))
        self.assertFalse(hasattr(hint, "__dict__"))

    def test_values_that_are_no_predicate(self):
        for predicate in NO_PREDICATES + [nodes(17)]:
            for call in (lambda: Hint(predicate, Bitmap(SHAPE, A)), lambda: Hint.exact(predicate, table()),
                         lambda: Hint.exact(predicate, Table(SHAPE))):
                with self.subTest(predicate=predicate):
                    refused_with(self, BadPredicate, "predicate", predicate, call)

    def test_the_columns_of_the_shape(self):
        for columns in (1, 2, 3):
            shape = Shape(1, 1, columns=columns)
            for column in range(3):
                predicate = ("untrue", ("missing", column))
                calls = [lambda: Hint(predicate, Bitmap.filled(shape, 1)), lambda: Hint.exact(predicate, Table(shape))]
                for call in calls:
                    if column < columns:
                        self.assertEqual(call().predicate, predicate)
                    else:
                        refused_with(self, BadPredicate, "predicate", predicate, call)

    def test_exact(self):
        for predicate in PREDICATES:
            made = table()
            hint = Hint.exact(predicate, made)
            self.assertEqual(hint.predicate, predicate)
            self.assertIs(hint.bitmap.shape, SHAPE)
            for address in SHAPE.addresses():
                row = made.row_at(address)
                self.assertEqual(hint.bitmap.mark(address), 2 if row is not None and holds(predicate, row) else 0)
            self.assertEqual(hint.wrong_at(made), [])

    def test_exact_on_tables_that_are_empty_or_full(self):
        self.assertEqual(list(Hint.exact(("both",), Table(SHAPE)).bitmap), [(0, 0)] * 3)
        full = Table.of(SHAPE, [(value, None) for value in range(6)])
        self.assertEqual(list(Hint.exact(("both",), full).bitmap), [(2, 2)] * 3)
        self.assertEqual(list(Hint.exact(("<", 0, 3), full).bitmap), [(2, 2), (2, 0), (0, 0)])

    def test_a_hint_stays_when_the_table_changes(self):
        made = table()
        hint = Hint.exact(("<", 0, 5), made)
        made.take((0, 0))
        made.change((2, 0), (1, 1))
        self.assertEqual(list(hint.bitmap), [(2, 0), (0, 0), (0, 0)])


class ChangingHints(unittest.TestCase):
    def test_size(self):
        for rows in (A, [[0, 0]] * 3, [[1, 1]] * 3, [[2, 2], [0, 1], [1, 1]]):
            hint = Hint(("<", 0, 5), Bitmap(SHAPE, rows))
            self.assertEqual(hint.size, hint.bitmap.size)

    def test_forgotten(self):
        hint = Hint(("<", 0, 5), Bitmap(SHAPE, A))
        for many in range(4):
            for pages in itertools.product(range(3), repeat=many):
                new = hint.forgotten(*pages)
                self.assertEqual([new.predicate, list(new.bitmap)], [("<", 0, 5), list(hint.bitmap.forgotten(*pages))])
                self.assertIs(new.__class__, Hint)
        self.assertEqual(list(hint.bitmap), [tuple(row) for row in A])

    def test_forgotten_refuses_the_first_value_that_is_no_page(self):
        hint = Hint(("<", 0, 5), Bitmap(SHAPE, A))
        for value in NO_PAGES:
            for pages in ([value], [0, value], [2, value, "worse"]):
                refused_with(self, NoPlace, "place", value, hint.forgotten, *pages)

    def test_touched(self):
        hint = Hint(("<", 0, 5), Bitmap(SHAPE, A))
        for address in SHAPE.addresses():
            new = hint.touched(address)
            self.assertEqual([new.predicate, list(new.bitmap)], [("<", 0, 5), list(hint.bitmap.marked(address, 1))])
        self.assertEqual(list(hint.bitmap), [tuple(row) for row in A])

    def test_touched_refuses_values_that_are_no_address(self):
        hint = Hint(("<", 0, 5), Bitmap(SHAPE, A))
        for value in ODD_VALUES + [(3, 0), (0, 2), (-1, 0), 0]:
            refused_with(self, NoPlace, "place", value, hint.touched, value)

    def test_a_true_hint_stays_true(self):
        made = table()
        for predicate in PREDICATES:
            hint = Hint.exact(predicate, made)
            for pages in itertools.product(range(3), repeat=2):
                self.assertEqual(hint.forgotten(*pages).wrong_at(made), [])
            for address in SHAPE.addresses():
                self.assertEqual(hint.touched(address).wrong_at(made), [])


class WrongMarks(unittest.TestCase):
    def test_each_mark_at_each_address(self):
        made = table()
        for predicate in PREDICATES:
            hint = Hint.exact(predicate, made)
            for address in SHAPE.addresses():
                for mark in range(3):
                    other = Hint(predicate, hint.bitmap.marked(address, mark))
                    row = made.row_at(address)
                    right = row is None or agrees_with(holds(predicate, row), mark)
                    self.assertEqual(other.wrong_at(made), [] if right else [address])

    def test_several_in_order(self):
        made = table()
        self.assertEqual(Hint(("<", 0, 5), Bitmap(SHAPE, [[0, 2], [0, 2], [2, 2]])).wrong_at(made),
                         [(0, 0), (0, 1), (2, 0), (2, 1)])
        self.assertEqual(Hint(("both",), Bitmap.filled(SHAPE, 0)).wrong_at(made),
                         [(0, 0), (0, 1), (1, 0), (2, 0), (2, 1)])
        self.assertEqual(Hint(("both",), Bitmap.filled(SHAPE, 0)).wrong_at(Table(SHAPE)), [])

    def test_unknown_does_not_hold(self):
        made = table()
        hint = Hint(("<", 0, 5), Bitmap.filled(SHAPE, 2))
        self.assertEqual(hint.wrong_at(made), [(0, 1), (1, 0), (2, 0), (2, 1)])
        self.assertEqual(Hint(("<", 0, 5), Bitmap.filled(SHAPE, 0)).wrong_at(made), [(0, 0)])

    def test_the_list_may_be_changed(self):
        made = table()
        hint = Hint(("both",), Bitmap(SHAPE, [[0, 2], [2, 2], [2, 2]]))
        hint.wrong_at(made).clear()
        self.assertEqual(hint.wrong_at(made), [(0, 0)])

    def test_shapes_that_are_alike_and_that_are_not(self):
        hint = Hint(("<", 0, 5), Bitmap.filled(SHAPE, 1))
        self.assertEqual(hint.wrong_at(Table.of(Shape(3, 2, chunk=2), ROWS)), [])
        for shape in other_shapes(SHAPE):
            refused(self, OtherShape, hint.wrong_at, Table(shape))


class JoiningHints(unittest.TestCase):
    def test_the_example(self):
        made = Table.of(Shape(1, 3, columns=1), [(3,), (None,), (9,)])
        less = Hint.exact(("both",), made) - Hint.exact(("<", 0, 5), made)
        self.assertEqual([list(less.bitmap), less.predicate, less.wrong_at(made)],
                         [[(0, 2, 2)], ("both", ("both",), ("untrue", ("<", 0, 5))), []])

    def test_predicates_and_bitmaps(self):
        a, b = Bitmap(SHAPE, A), Bitmap(SHAPE, [[1, 2], [2, 0], [2, 2]])
        for p, q in itertools.product(PREDICATES, repeat=2):
            h, k = Hint(p, a), Hint(q, b)
            self.assertEqual([(h & k).predicate, list((h & k).bitmap)], [("both", p, q), list(a & b)])
            self.assertEqual([(h | k).predicate, list((h | k).bitmap)], [("either", p, q), list(a | b)])
            self.assertEqual([(h - k).predicate, list((h - k).bitmap)], [("both", p, ("untrue", q)), list(a - b)])
            self.assertEqual([h.predicate, list(h.bitmap), k.predicate, list(k.bitmap)], [p, list(a), q, list(b)])

    def test_shapes_that_are_not_alike(self):
        h = Hint(("<", 0, 5), Bitmap(SHAPE, A))
        for shape in other_shapes(SHAPE):
            k = Hint(nodes(16) if shape.columns > 1 else ("either", *[("missing", 0)] * 15), Bitmap.filled(shape, 2))
            for one, two in ((h, k), (k, h)):
                refused(self, OtherShape, lambda: one & two)
                refused(self, OtherShape, lambda: one | two)
                refused(self, OtherShape, lambda: one - two)

    def test_sixteen_nodes_and_more(self):
        for first in range(1, 17):
            for second in range(1, 17):
                h, k = [Hint(nodes(many), Bitmap(SHAPE, A)) for many in (first, second)]
                for call, joined, more in [
                        (lambda: h & k, ("both", nodes(first), nodes(second)), 1),
                        (lambda: h | k, ("either", nodes(first), nodes(second)), 1),
                        (lambda: h - k, ("both", nodes(first), ("untrue", nodes(second))), 2)]:
                    if first + second + more <= 16:
                        self.assertEqual(call().predicate, joined)
                    else:
                        self.assertEqual(refused(self, BadPredicate, call).predicate, joined)

    def test_a_joined_hint_is_true_where_both_are(self):
        shape = Shape(1, 1)
        rows = list(itertools.product([None, 2, 3, 4, 5, 6, 7], repeat=2))
        for row in rows:
            made = Table.of(shape, [row])
            for p, q in itertools.product(PREDICATES, repeat=2):
                for first, second in itertools.product(range(3), repeat=2):
                    if agrees_with(holds(p, row), first) and agrees_with(holds(q, row), second):
                        h, k = Hint(p, Bitmap(shape, [[first]])), Hint(q, Bitmap(shape, [[second]]))
                        for joined, truth in joins(h, k):
                            self.assertEqual(joined.wrong_at(made), [])
                            self.assertIs(holds(joined.predicate, row), bool(truth(holds(p, row), holds(q, row))))

    def test_a_joined_hint_on_whole_tables(self):
        made = table()
        for p, q in itertools.product(PREDICATES, repeat=2):
            h, k = Hint.exact(p, made).forgotten(0), Hint.exact(q, made).touched((2, 1))
            for joined, _ in joins(h, k):
                self.assertEqual(joined.wrong_at(made), [])

    def test_joined_hints_may_be_joined(self):
        made = table()
        h, k = Hint.exact(("<", 0, 6), made), Hint.exact(("missing", 1), made)
        again = (h | k) - (h & k)
        self.assertEqual(again.predicate, ("both", ("either", h.predicate, k.predicate),
                                           ("untrue", ("both", h.predicate, k.predicate))))
        self.assertEqual([list(again.bitmap), again.wrong_at(made)], [[(2, 2), (0, 0), (2, 0)], []])


class AllMarks(unittest.TestCase):
    def test_true_hints_by_brute_force(self):
        shape = Shape(1, 2, columns=1)
        made = Table.of(shape, [None, (3,)])
        for marks in every_mark(shape):
            hint = Hint(("<", 0, 5), Bitmap(shape, marks))
            self.assertEqual(hint.wrong_at(made), [] if marks[0][1] else [(0, 1)])
