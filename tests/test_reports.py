import unittest

from tests import fitting
from tests.fitting import drawing, drawn_hint
from tests.samples import other_shapes, refused
from wholepages.bitmaps import Bitmap
from wholepages.errors import OtherShape
from wholepages.hints import Hint
from wholepages.predicates import describe
from wholepages.reports import report
from wholepages.scans import Scan, scan
from wholepages.shapes import Shape
from wholepages.tables import Table

SHAPE = Shape(3, 2, chunk=2)
ROWS = [(3, 10), (7, None), (None, 4), None, (5, 5), (9, 1)]
HEAD = "page rows  hit test  kinds"


def made(rows=ROWS, shape=SHAPE):
    return Table.of(shape, rows)


def plain_report(table, hints, found):
    """The lines, by a plain reading of [28]."""
    lines = ["h" + str(number) + " " + describe(hint.predicate) for number, hint in enumerate(hints)] + [HEAD]
    lists = [[address for address, _ in table.walk()], found.answers, found.tested]
    for page in range(table.shape.pages):
        counted = [page] + [[at for at, _ in addresses].count(page) for addresses in lists]
        kinds = "".join([{"blank": ".", "whole": "#", "exact": "x"}[fitting.kind(list(hint.bitmap)[page])]
                         for hint in hints]) or "-"
        lines.append(" ".join([str(number).rjust(4) for number in counted]) + "  " + kinds)
    sums = [str(len(addresses)).rjust(4) for addresses in lists]
    size = sum([fitting.size(list(hint.bitmap), table.shape) for hint in hints])
    return lines + [" ".join([" all", *sums]) + "  " + str(size)]


class Reports(unittest.TestCase):
    def test_the_example(self):
        table = made()
        hint = Hint.exact(("<", 0, 7), table).forgotten(0)
        self.assertEqual(report(table, [hint], scan(table, [hint], ("<", 0, 5))),
                         ["h0 c0 < 7", HEAD, "   0    2    1    2  #", "   1    1    0    0  .",
                          "   2    2    0    1  x", " all    5    1    3  2"])

    def test_no_hint(self):
        table = made()
        self.assertEqual(report(table, [], scan(table, [], ("<", 0, 8))),
                         [HEAD, "   0    2    2    2  -", "   1    1    0    1  -", "   2    2    1    2  -",
                          " all    5    3    5  0"])

    def test_several_hints(self):
        table = made()
        hints = [Hint.exact(("<", 0, 7), table), Hint.exact(("missing", 1), table).forgotten(0, 1),
                 Hint(("both", ("both",), ("untrue", ("missing", 0))), Bitmap.filled(SHAPE, 1)),
                 Hint.exact(("either",), table)]
        self.assertEqual(report(table, hints, scan(table, hints, ("<", 0, 9))),
                         ["h0 c0 < 7", "h1 c1 missing", "h2 both(both(), untrue(c0 missing))", "h3 either()", HEAD,
                          "   0    2    2    1  x##.", "   1    1    0    1  .##.", "   2    2    1    1  x.#.",
                          " all    5    3    3  5"])

    def test_an_empty_table(self):
        table = Table(Shape(1, 1, columns=1))
        hint = Hint(("both",), Bitmap(table.shape, [[2]]))
        self.assertEqual(report(table, [], scan(table, [], ("both",))),
                         [HEAD, "   0    0    0    0  -", " all    0    0    0  0"])
        self.assertEqual(report(table, [hint, hint], scan(table, [], ("both",))),
                         ["h0 both()", "h1 both()", HEAD, "   0    0    0    0  xx", " all    0    0    0  2"])

    def test_the_greatest_shape(self):
        shape = Shape(16, 8, columns=1)
        table = made([(value,) for value in range(128)], shape)
        hints = [Hint.exact(("<", 0, 50), table)] * 4
        lines = report(table, hints, scan(table, hints, ("<", 0, 41)))
        self.assertEqual(lines[4:], [HEAD] + [
            "   0    8    8    8  xxxx", "   1    8    8    8  xxxx", "   2    8    8    8  xxxx",
            "   3    8    8    8  xxxx", "   4    8    8    8  xxxx", "   5    8    1    8  xxxx",
            "   6    8    0    2  xxxx", "   7    8    0    0  ....", "   8    8    0    0  ....",
            "   9    8    0    0  ....", "  10    8    0    0  ....", "  11    8    0    0  ....",
            "  12    8    0    0  ....", "  13    8    0    0  ....", "  14    8    0    0  ....",
            "  15    8    0    0  ....", " all  128   41   50  28"])

    def test_a_plain_reading(self):
        draw = drawing(1)
        for shape in (Shape(1, 1), Shape(5, 2, chunk=2), Shape(4, 3, chunk=1), Shape(12, 2, chunk=5)):
            for many in (0, 1, 3, 7, 11):
                table = made([draw.choice([None, (draw.randrange(9), None)]) for _ in shape.addresses()], shape)
                exact = [Hint.exact(("<", 0, 5), table).forgotten(0)][:many]
                hints = [drawn_hint(draw, shape, ("=", 0, -number)) for number in range(many)]
                for query in (("<", 0, 4), ("both",), ("<", 0, 5)):
                    # The scan may have been made with other hints than those that are reported.
                    found = scan(table, exact, query)
                    lines = report(table, hints, found)
                    self.assertEqual(lines, plain_report(table, hints, found))
                    self.assertEqual({line.__class__ for line in lines}, {str})

    def test_what_is_told_is_that_of_the_scan(self):
        table = made()
        hint = Hint.exact(("<", 0, 7), table)
        found = Scan([(2, 1)], [(0, 0), (2, 0), (2, 1)], [None] * 3)
        self.assertEqual(report(table, [hint], found)[1:],
                         [HEAD, "   0    2    0    1  x", "   1    1    0    0  .", "   2    2    1    2  x",
                          " all    5    1    3  2"])

    def test_other_shape(self):
        table = made()
        found = scan(table, [], ("both",))
        good = Hint(("both",), Bitmap.filled(Shape(3, 2, chunk=2), 1))
        self.assertEqual(len(report(table, [good] * 9, found)), 14)
        for shape in other_shapes(SHAPE):
            other = Hint(("both",), Bitmap.filled(shape, 1))
            for hints in ([other], [good, other], [other, good], [good] * 5 + [other]):
                refused(self, OtherShape, report, table, hints, found)

    def test_lists(self):
        table = made()
        hints = [Hint.exact(("<", 0, 7), table)]
        found = scan(table, hints, ("<", 0, 5))
        before = [list(table.walk()), list(hints[0].bitmap), list(found.answers), list(found.tested), list(found.pairs)]
        lines = report(table, hints, found)
        kept = list(lines)
        lines.clear()
        self.assertEqual(report(table, hints, found), kept)
        self.assertEqual([list(table.walk()), list(hints[0].bitmap), found.answers, found.tested, found.pairs], before)
        self.assertEqual(len(hints), 1)
