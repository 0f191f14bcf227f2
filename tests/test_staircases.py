import itertools
import unittest

from tests import fitting
from tests.fitting import drawing
from tests.samples import other_shapes, refused, refused_with
from wholepages.bitmaps import Bitmap
from wholepages.errors import BadPredicate, NoRoom, OtherShape, TooMany, TooWide
from wholepages.hints import Hint
from wholepages.scans import scan
from wholepages.shapes import Shape
from wholepages.staircases import Staircase
from wholepages.tables import Table

PREDICATES = [("<", 0, 5), ("<", 0, 9), ("missing", 1), ("untrue", (">", 1, 4))]
QUERIES = [("<", 0, 5), ("both", (">=", 0, 5), ("<", 0, 9)), ("either", ("missing", 1), ("<", 0, 5)), ("both",),
           ("either",), ("=", 0, 7), ("both", ("<", 0, 9), ("<=", 1, 4))]
NO_PREDICATES = [None, 5, ["<", 0, 5], ("<", 2, 5), ("missing", True), ("both", *[("both",)] * 16)]
WIDE = [("both", *[("=", column, 2 * number) for number in range(8)]) for column in range(2)]


def drawn_table(draw, shape):
    rows = [draw.choice([None, *[(draw.choice([None, *range(3, 11)]), draw.choice([None, *range(1, 8)]))
                                 for _ in range(4)]]) for _ in shape.addresses()]
    return Table.of(shape, rows)


def drawn_hints(draw, table, many):
    """Hints that are true of the table, with exact, whole and blank pages."""
    hints = []
    for predicate in PREDICATES[:many]:
        hint = Hint.exact(predicate, table)
        hint = hint.forgotten(*[page for page in range(table.shape.pages) if draw.random() < 0.2])
        hints.append(hint.touched(draw.choice(table.shape.addresses())))
    return hints


def forget(hints, pairs):
    return [hint.forgotten(*[page for number, page in pairs if number == at]) for at, hint in enumerate(hints)]


def size_of(hints):
    return sum([hint.size for hint in hints])


def forgettings(hints, shape):
    """All sets of pairs (number of the hint, page), also of pages that are blank or whole."""
    pairs = list(itertools.product(range(len(hints)), range(shape.pages)))
    return [[pair for pair, taken in zip(pairs, bits) if taken]
            for bits in itertools.product([False, True], repeat=len(pairs))]


def by_scans(table, hints, query):
    """For each size that a forgetting leaves, the least number of tests of the scans after one."""
    found = {}
    for pairs in forgettings(hints, table.shape):
        after = forget(hints, pairs)
        tests = len(scan(table, after, query).tested)
        found[size_of(after)] = min(tests, found.get(size_of(after), tests))
    return found


def by_pages(table, hints, query):
    """As by_scans, from the tests on each page, which only depend on what is forgotten on the page."""
    shape, count = table.shape, len(hints)
    tested, found = {}, {}
    for some in itertools.product([False, True], repeat=count):
        pairs = [(number, page) for number in range(count) for page in range(shape.pages) if some[number]]
        pages = [page for page, _ in scan(table, forget(hints, pairs), query).tested]
        for page in range(shape.pages):
            tested[page, some] = pages.count(page)
    kinds = [[hint.bitmap.kind(page) for page in range(shape.pages)] for hint in hints]
    for choice in itertools.product(list(itertools.product([False, True], repeat=count)), repeat=shape.pages):
        size = 0
        for number in range(count):
            after = ["whole" if choice[page][number] else kind for page, kind in enumerate(kinds[number])]
            for chunk in fitting.chunks_of(shape):
                inside = [after[page] for page in chunk]
                size += inside.count("exact") + ("whole" in inside)
        tests = sum([tested[page, some] for page, some in enumerate(choice)])
        found[size] = min(tests, found.get(size, tests))
    return found


def cases():
    """Small tables with hints that are true of them, and a query."""
    draw = drawing(1)
    for shape, many in [(Shape(1, 1), 0), (Shape(4, 2), 0), (Shape(1, 2, chunk=1), 1), (Shape(4, 2, chunk=2), 1),
                        (Shape(6, 1, chunk=4), 1), (Shape(7, 2, chunk=3), 1), (Shape(3, 2, chunk=2), 2),
                        (Shape(4, 3, chunk=4), 2), (Shape(4, 2, chunk=3), 2), (Shape(3, 2, chunk=1), 2),
                        (Shape(2, 3, chunk=2), 3), (Shape(3, 2, chunk=3), 3), (Shape(2, 3, chunk=1), 4),
                        (Shape(2, 2, chunk=2), 4)]:
        for query in QUERIES:
            table = drawn_table(draw, shape)
            yield table, drawn_hints(draw, table, many), query


class FewestTests(unittest.TestCase):
    def check(self, table, hints, query, found):
        """Compare the staircase with the fewest tests for each size that a forgetting leaves."""
        steps = Staircase(table, hints, query)
        least, full = min(found), size_of(hints)
        expected = [(room, min([found[size] for size in found if size <= room])) for room in range(least, full + 1)]
        self.assertEqual([list(steps), steps.least, steps.full], [expected, least, full])
        self.assertEqual(expected[-1][1], len(scan(table, hints, query).tested))
        for room, tests in expected:
            self.assertEqual(steps.tests(room), tests)
        for room in (full + 1, full + 7, 10 ** 18):
            self.assertEqual([steps.tests(room), steps.choice(room)], [expected[-1][1], []])
        for room in (least - 1, least - 5, -10 ** 18):
            for call in (steps.tests, steps.choice):
                raised = refused(self, NoRoom, call, room)
                self.assertEqual([raised.offered, list(vars(raised))], [room, ["offered"]])
        self.check_choices(table, hints, query, steps)

    def check_choices(self, table, hints, query, steps):
        for room in range(steps.least, steps.full + 1):
            pairs = steps.choice(room)
            self.assertEqual([pairs.__class__, pairs], [list, sorted(set(pairs))])
            for number, page in pairs:
                self.assertEqual(hints[number].bitmap.kind(page), "exact")
            after = forget(hints, pairs)
            self.assertLessEqual(size_of(after), room)
            self.assertEqual(len(scan(table, after, query).tested), steps.tests(room))
        self.assertEqual(steps.choice(steps.full), [])

    def test_compared_with_scans_after_all_forgettings(self):
        several = 0
        for table, hints, query in cases():
            found = by_scans(table, hints, query)
            several += len(set(found.values())) > 2
            self.assertEqual(found, by_pages(table, hints, query))
            self.check(table, hints, query, found)
        self.assertGreater(several, 10)

    def test_compared_by_pages(self):
        draw = drawing(2)
        for shape, many in [(Shape(10, 2, chunk=4), 1), (Shape(9, 3, chunk=9), 1), (Shape(6, 2, chunk=4), 2),
                            (Shape(5, 3, chunk=2), 2), (Shape(4, 2, chunk=3), 3), (Shape(3, 4, chunk=2), 4)]:
            for query in QUERIES[:2] + [draw.choice(QUERIES[2:])]:
                table = drawn_table(draw, shape)
                hints = drawn_hints(draw, table, many)
                self.check(table, hints, query, by_pages(table, hints, query))

    def test_the_example(self):
        table = Table.of(Shape(4, 2, columns=1), [(1,), (2,), (3,), None, (4,), (5,)])
        hint = Hint.exact((">", 0, 0), table)
        steps = Staircase(table, [hint], (">", 0, 0))
        self.assertEqual([list(steps), steps.least, steps.full, steps.tests(9)], [[(1, 5), (2, 3), (3, 0)], 1, 3, 0])
        self.assertEqual(steps.choice(1), [(0, 0), (0, 1), (0, 2)])
        self.assertIn(steps.choice(2), [[(0, 0), (0, 1)], [(0, 1), (0, 2)]])

    def test_the_greatest_shape(self):
        draw = drawing(3)
        for chunk in (1, 4, 16):
            table = drawn_table(draw, Shape(16, 8, chunk=chunk))
            hints = drawn_hints(draw, table, 4)
            steps = Staircase(table, hints, QUERIES[2])
            rooms = list(range(steps.least, steps.full + 1))
            tests = [many for _, many in steps]
            self.assertEqual([[room for room, _ in steps], tests], [rooms, sorted(tests, reverse=True)])
            self.assertEqual(steps.least, fitting.least_room([list(hint.bitmap) for hint in hints], table.shape))
            self.check_choices(table, hints, QUERIES[2], steps)

    def test_no_hint(self):
        table = Table.of(Shape(2, 2), [(1, 1), None, (9, 9)])
        for query, tests in ((("<", 0, 5), 2), (("both",), 0)):
            steps = Staircase(table, [], query)
            self.assertEqual([list(steps), steps.least, steps.full], [[(0, tests)], 0, 0])
            self.assertEqual([steps.tests(0), steps.choice(0), steps.tests(3), steps.choice(3)], [tests, [], tests, []])
            self.assertEqual(refused(self, NoRoom, steps.tests, -1).offered, -1)
            refused(self, NoRoom, steps.choice, -1)

    def test_an_empty_table(self):
        shape = Shape(3, 2, chunk=2)
        hints = [Hint(("<", 0, 5), Bitmap(shape, [[2, 0], [0, 1], [1, 1]])), Hint(("<", 0, 5), Bitmap.filled(shape, 0))]
        steps = Staircase(Table(shape), hints, ("<", 0, 5))
        self.assertEqual([list(steps), steps.choice(2)], [[(2, 0), (3, 0)], [(0, 0), (0, 1)]])

    def test_columns(self):
        for columns in (1, 3):
            table = Table.of(Shape(2, 1, columns=columns), [(4,) * columns, (8,) * columns])
            hints = [Hint.exact(("<", columns - 1, number), table) for number in (5, 9)]
            self.check(table, hints, ("<", columns - 1, 5), by_scans(table, hints, ("<", columns - 1, 5)))


class AsItWasMade(unittest.TestCase):
    def made(self):
        draw = drawing(4)
        table = drawn_table(draw, Shape(5, 3, chunk=2))
        return table, drawn_hints(draw, table, 3), QUERIES[2]

    def told(self, steps):
        return [list(steps), steps.least, steps.full, [list(steps.choice(room)) for room, _ in steps]]

    def test_later_changes(self):
        table, hints, query = self.made()
        rows = list(table.walk())
        marks = [list(hint.bitmap) for hint in hints]
        steps = Staircase(table, hints, query)
        before = self.told(steps)
        self.assertEqual([list(table.walk()), [list(hint.bitmap) for hint in hints]], [rows, marks])
        hints.clear()
        for address, _ in list(table.walk()):
            table.take(address)
        table.put((6, 6))
        self.assertEqual(self.told(steps), before)
        list(steps).clear()
        for room, _ in steps:
            steps.choice(room).clear()
        self.assertEqual(self.told(steps), before)

    def test_equal_choices(self):
        table, hints, query = self.made()
        before = self.told(Staircase(table, hints, query))
        self.assertEqual(self.told(Staircase(table, hints, query)), before)
        other = Table(Shape(5, 3, chunk=2))
        other.put((1, 1))
        other.take((0, 0))
        for address, row in reversed(list(table.walk())):
            other.put_at(address, list(row))
        again = [Hint(tuple(list(hint.predicate)), Bitmap(other.shape, [list(row) for row in hint.bitmap]))
                 for hint in hints]
        self.assertEqual(self.told(Staircase(other, again, (*query,))), before)


class Refusals(unittest.TestCase):
    def setUp(self):
        self.shape = Shape(3, 2, chunk=2)
        self.table = Table.of(self.shape, [(3, 10), (7, None)])
        self.hint = Hint.exact(("<", 0, 5), self.table)
        self.wide = [Hint(one, Bitmap.filled(self.shape, 1)) for one in WIDE]

    def test_too_many(self):
        self.assertEqual(Staircase(self.table, [self.hint] * 4, ("<", 0, 5)).full, 4)
        other = Hint(("both",), Bitmap.filled(Shape(1, 1), 1))
        for many in (5, 6, 40):
            for hint in (self.hint, other):
                raised = refused(self, TooMany, Staircase, self.table, [hint] * many, "bad")
                self.assertEqual([raised.many, list(vars(raised))], [many, ["many"]])

    def test_other_shape(self):
        for shape in other_shapes(self.shape):
            other = Hint(("both",), Bitmap.filled(shape, 1))
            for hints in ([other], [self.hint, other], self.wide + [other]):
                refused(self, OtherShape, Staircase, self.table, hints, "bad")

    def test_bad_predicate(self):
        for bad in NO_PREDICATES:
            for hints in ([], [self.hint], self.wide):
                refused_with(self, BadPredicate, "predicate", bad, Staircase, self.table, hints, bad)
                refused_with(self, BadPredicate, "predicate", bad, Staircase, Table(self.shape), hints, bad)

    def test_too_wide(self):
        for table in (self.table, Table(self.shape)):
            for hints, query in ((self.wide, ("both",)), (self.wide[:1], WIDE[1])):
                raised = refused(self, TooWide, Staircase, table, hints, query)
                self.assertEqual([raised.boxes, list(vars(raised))], [18 * 18, ["boxes"]])
