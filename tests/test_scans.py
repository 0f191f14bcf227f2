import itertools
import unittest

from tests.samples import agrees_with, other_shapes, refused, refused_with
from wholepages.bitmaps import Bitmap
from wholepages.errors import BadPredicate, Contradiction, OtherShape, TooMany, TooWide
from wholepages.hints import Hint
from wholepages.judges import Judge
from wholepages.predicates import holds
from wholepages.scans import Scan, scan
from wholepages.shapes import Shape
from wholepages.tables import Table

SHAPE = Shape(3, 2, chunk=2)
ROWS = [(3, 10), (7, None), (None, 4), None, (5, 5), (9, 1)]
TABLES = [[], ROWS, [None, (4, 4)], [(4, None)] * 6, [(value, 10 - value) for value in range(3, 9)],
          [None, None, (None, None), (10 ** 18, -10 ** 18)]]
QUERIES = [("<", 0, 5), ("<", 0, 9), ("both", (">=", 0, 5), ("<", 0, 9)), ("missing", 1), ("both",), ("either",),
           ("either", ("=", 0, 7), (">", 1, 4)), ("untrue", ("<", 0, 5)), ("negation", ("<", 0, 5))]
FOURS = [("<", 0, 5), ("<", 0, 9), ("missing", 1), ("untrue", (">", 1, 4))]
VALUES = [None, -10 ** 18, 10 ** 18] + list(range(2, 12))
NO_PREDICATES = [None, 5, ["<", 0, 5], ("<", 2, 5), ("missing", True), ("both", *[("both",)] * 16)]


def made(rows=ROWS):
    return Table.of(SHAPE, rows)


def hint_lists(table):
    """Lists of hints that are true of the table: none, one and four, also forgotten and joined ones."""
    four = [Hint.exact(predicate, table) for predicate in FOURS]
    everywhere = Hint(("<", 0, 5), Bitmap.filled(SHAPE, 1))
    return [[], [four[0]], [four[0].forgotten(0)], [four[1]], [everywhere], four, four[:2] + [four[0], four[0]],
            [four[0].forgotten(1), four[1].forgotten(2), four[2].touched((0, 1)), four[3].touched((2, 0))],
            [four[1] - four[0], four[2] | four[3].forgotten(0, 2)]]


def every_case():
    for rows in TABLES:
        table = made(rows)
        for hints in hint_lists(table):
            for query in QUERIES:
                yield table, hints, query


def marks_at(hints, address):
    return [hint.bitmap.mark(address) for hint in hints]


def agreeing(hints, address):
    """The rows, over some values, that agree with all marks at the address."""
    return [row for row in itertools.product(VALUES, repeat=2)
            if all([agrees_with(holds(hint.predicate, row), hint.bitmap.mark(address)) for hint in hints])]


class Answers(unittest.TestCase):
    def test_the_examples(self):
        table = made()
        hint = Hint.exact(("<", 0, 7), table)
        one = scan(table, [hint], ("<", 0, 5))
        two = scan(table, [hint], ("<", 0, 9))
        three = scan(table, [hint.forgotten(0)], ("<", 0, 5))
        self.assertEqual([list(hint.bitmap), one.answers, one.tested, one.pairs[0]],
                         [[(2, 0), (0, 0), (2, 0)], [(0, 0)], [(0, 0), (2, 0)], ((4, None), (5, None))])
        self.assertEqual([two.answers, two.tested], [[(0, 0), (0, 1), (2, 0)], [(0, 1), (1, 0), (2, 1)]])
        self.assertEqual([three.answers, three.tested, three.tested_pages],
                         [[(0, 0)], [(0, 0), (0, 1), (2, 0)], [0, 2]])

    def test_answers_are_the_rows_for_which_the_query_holds(self):
        for table, hints, query in every_case():
            found = scan(table, hints, query)
            self.assertEqual(found.answers, [address for address, row in table.walk() if holds(query, row)])
            self.assertIs(found.__class__, Scan)

    def test_tested_are_the_rows_that_the_marks_leave_open(self):
        for table, hints, query in every_case():
            tested = []
            for address, _ in table.walk():
                truths = {holds(query, row) for row in agreeing(hints, address)}
                if len(truths) == 2:
                    tested.append(address)
            found = scan(table, hints, query)
            self.assertEqual(found.tested, tested)
            self.assertEqual(found.tested_pages, sorted({page for page, _ in tested}))

    def test_pairs(self):
        for table, hints, query in every_case():
            found = scan(table, hints, query)
            judge = Judge([hint.predicate for hint in hints], query)
            self.assertEqual(found.pairs, [judge.pair(marks_at(hints, address)) for address in found.tested])
            for address, (first, second) in zip(found.tested, found.pairs):
                self.assertEqual([holds(query, first), holds(query, second)], [True, False])
                for row in (first, second):
                    for hint in hints:
                        self.assertTrue(agrees_with(holds(hint.predicate, row), hint.bitmap.mark(address)))

    def test_no_test_can_be_spared(self):
        for table, hints, query in every_case():
            found = scan(table, hints, query)
            for address, pair in zip(found.tested, found.pairs):
                others = [answer for answer in found.answers if answer != address]
                for row, expected in zip(pair, (sorted(others + [address]), others)):
                    other = table.copied()
                    other.change(address, row)
                    self.assertEqual([hint.wrong_at(other) for hint in hints], [[]] * len(hints))
                    again = scan(other, hints, query)
                    self.assertEqual([again.answers, again.tested], [expected, found.tested])

    def test_no_hint(self):
        table = made()
        self.assertEqual(scan(table, [], ("<", 0, 5)).tested, [address for address, _ in table.walk()])
        self.assertEqual(scan(table, [], ("<", 0, 5)).pairs, [((4, None), (None, None))] * 5)
        for query, answers in ((("both",), [address for address, _ in table.walk()]), (("either",), [])):
            found = scan(table, [], query)
            self.assertEqual([found.answers, found.tested, found.pairs, found.tested_pages], [answers, [], [], []])

    def test_empty_addresses_are_not_judged(self):
        contradicting = [Hint(("<", 0, 5), Bitmap.filled(SHAPE, 2)), Hint(("<", 0, 5), Bitmap.filled(SHAPE, 0))]
        found = scan(Table(SHAPE), contradicting, ("<", 0, 7))
        self.assertEqual([found.answers, found.tested, found.pairs, list(found)], [[], [], [], []])
        refused(self, Contradiction, scan, made([None, (4, 4)]), contradicting, ("<", 0, 7))

    def test_each_column_count(self):
        for columns in (1, 2, 3):
            shape = Shape(2, 1, columns=columns)
            table = Table.of(shape, [(4,) * columns, (8,) * columns])
            found = scan(table, [Hint(("<", 0, 9), Bitmap.filled(shape, 2))], ("<", columns - 1, 5))
            self.assertEqual([found.answers, found.tested], [[(0, 0)], [(0, 0), (1, 0)]])
            self.assertEqual({len(row) for row in found.pairs[0]}, {columns})

    def test_the_greatest_shape(self):
        shape = Shape(16, 8, columns=1)
        table = Table.of(shape, [(value,) for value in range(128)])
        found = scan(table, [Hint.exact(("<", 0, 50), table).forgotten(7)], ("<", 0, 50))
        self.assertEqual([len(found.answers), found.tested, found.tested_pages],
                         [50, [(7, slot) for slot in range(8)], [7]])

    def test_iteration(self):
        table = made()
        found = scan(table, [], ("<", 0, 9))
        self.assertEqual([list(found), list(found)], [[(0, 0), (0, 1), (2, 0)]] * 2)
        self.assertEqual(list(found), found.answers)


class Refusals(unittest.TestCase):
    def test_too_many(self):
        table = made()
        hint = Hint.exact(("<", 0, 5), table)
        self.assertEqual(scan(table, [hint] * 4, ("<", 0, 5)).tested, [])
        for many in (5, 6, 300):
            raised = refused(self, TooMany, scan, table, [hint] * many, ("<", 0, 5))
            self.assertEqual([raised.many, list(vars(raised))], [many, ["many"]])

    def test_other_shape(self):
        table = made()
        hint = Hint.exact(("<", 0, 5), table)
        self.assertEqual(scan(Table.of(Shape(3, 2, chunk=2), ROWS), [hint], ("<", 0, 5)).answers, [(0, 0)])
        for shape in other_shapes(SHAPE):
            other = Hint(("<", 0, 5), Bitmap.filled(shape, 1))
            for hints in ([other], [hint, other], [other, hint], [hint] * 3 + [other]):
                refused(self, OtherShape, scan, table, hints, ("<", 0, 5))
            refused(self, OtherShape, scan, Table(shape), [hint], ("<", 0, 5))

    def test_the_query(self):
        table = made()
        for bad in NO_PREDICATES:
            for hints in ([], [Hint.exact(("<", 0, 5), table)]):
                refused_with(self, BadPredicate, "predicate", bad, scan, table, hints, bad)
                refused_with(self, BadPredicate, "predicate", bad, scan, Table(SHAPE), [], bad)
        refused_with(self, BadPredicate, "predicate", FOURS[3], scan, Table(Shape(1, 1, columns=1)), [], FOURS[3])

    def test_too_wide(self):
        table = made()
        wide = [("both", *[("=", column, 2 * number) for number in range(8)]) for column in range(2)]
        for hints, query in [([], ("both", *wide[0][1:8], *wide[1][1:9])),
                             ([Hint(wide[0], Bitmap.filled(SHAPE, 1))], wide[1]),
                             ([Hint(one, Bitmap.filled(SHAPE, 1)) for one in wide], ("both",))]:
            for taken in (table, Table(SHAPE)):
                raised = refused(self, TooWide, scan, taken, hints, query)
                self.assertEqual([raised.boxes, list(vars(raised))], [18 * (16 if not hints else 18), ["boxes"]])

    def test_the_order(self):
        table = made()
        other = Hint(("<", 0, 5), Bitmap.filled(Shape(3, 2, chunk=1), 1))
        wide = [Hint(("both", *[("=", column, 2 * number) for number in range(8)]), Bitmap.filled(SHAPE, 1))
                for column in range(2)]
        bad = ("<", 2, 5)
        refused(self, TooMany, scan, table, [other] * 5, bad)
        refused(self, OtherShape, scan, table, wide + [other], bad)
        refused_with(self, BadPredicate, "predicate", bad, scan, table, wide, bad)
        refused(self, TooWide, scan, table, wide, ("both",))


class Lists(unittest.TestCase):
    def test_lists_that_were_returned_may_be_changed(self):
        table = made()
        hints = [Hint.exact(("<", 0, 7), table)]
        first = scan(table, hints, ("<", 0, 5))
        first.tested_pages.clear()
        self.assertEqual(first.tested_pages, [0, 2])
        for found in (first.answers, first.tested, first.pairs):
            found.clear()
        second = scan(table, hints, ("<", 0, 5))
        self.assertEqual([second.answers, second.tested, len(second.pairs)], [[(0, 0)], [(0, 0), (2, 0)], 2])

    def test_the_passed_list_and_the_table_may_be_changed(self):
        table = made()
        hints = [Hint.exact(("<", 0, 7), table)]
        found = scan(table, hints, ("<", 0, 5))
        self.assertEqual([len(hints), list(hints[0].bitmap), table.used], [1, [(2, 0), (0, 0), (2, 0)], 5])
        hints.clear()
        table.take((0, 0))
        table.change((2, 0), (1, 1))
        self.assertEqual([found.answers, found.tested, found.pairs, found.tested_pages, list(found)],
                         [[(0, 0)], [(0, 0), (2, 0)], [((4, None), (5, None))] * 2, [0, 2], [(0, 0)]])
