import itertools
import unittest

from tests.samples import ODD_VALUES, every_mark, other_shapes, refused, refused_with
from wholepages.bitmaps import Bitmap
from wholepages.errors import BadMarks, NoPlace, OtherShape
from wholepages.shapes import Shape

SHAPE = Shape(3, 2, chunk=2)
A = [[2, 0], [1, 1], [0, 0]]
B = [[1, 2], [2, 0], [2, 2]]
NO_ADDRESSES = ODD_VALUES + [(3, 0), (0, 2), (-1, 0), (0, -1), 0]
NO_PAGES = [value for value in ODD_VALUES if not isinstance(value, int)] + [True, False, -1, 3, 10 ** 30, (0, 0)]
NO_CHUNKS = [value for value in NO_PAGES if value != 3] + [2, 3]
NO_MARKS = [value for value in ODD_VALUES if not isinstance(value, int)] + [True, False, -1, 3, 10 ** 30, "0", [0]]
PAGES = {"b": (0, 0), "w": (1, 1), "x": (2, 1), "y": (0, 1), "z": (2, 2)}


def bitmap(rows, shape=SHAPE):
    return Bitmap(shape, rows)


def of_kinds(kinds, chunk):
    """A bitmap with a page for each letter: blank, whole, or one of three exact ones."""
    return Bitmap(Shape(len(kinds), 2, chunk=chunk), [PAGES[kind] for kind in kinds])


class MakingBitmaps(unittest.TestCase):
    def test_lists_and_tuples_also_mixed(self):
        for rows in (A, tuple(A), [tuple(row) for row in A], tuple([tuple(row) for row in A]), [A[0], (1, 1), A[2]]):
            made = bitmap(rows)
            self.assertIs(made.shape, SHAPE)
            self.assertEqual(list(made), [(2, 0), (1, 1), (0, 0)])
            self.assertEqual({page.__class__ for page in made}, {tuple})

    def test_a_page_too_many_or_too_few(self):
        for rows in ([], (), A[:2], A + [[0, 0]], [[0] * 6], [0] * 6):
            refused(self, BadMarks, bitmap, rows)

    def test_a_mark_too_many_or_too_few(self):
        for page in range(3):
            for row in ([], (), [0], (0,), [0, 0, 0], (0, 0, 0)):
                refused(self, BadMarks, bitmap, A[:page] + [row] + A[page + 1:])

    def test_values_that_are_no_mark(self):
        for page, slot in SHAPE.addresses():
            for value in NO_MARKS:
                rows = [list(row) for row in A]
                rows[page][slot] = value
                with self.subTest(page=page, slot=slot, value=value):
                    refused(self, BadMarks, bitmap, rows)

    def test_values_that_are_no_rows(self):
        for value in ODD_VALUES + ["000", b"\0\0\0", {0, 1, 2}, {0: A[0], 1: A[1], 2: A[2]}, range(3), iter(A), 0]:
            with self.subTest(value=value):
                refused(self, BadMarks, bitmap, value)
        for value in ODD_VALUES + ["00", b"\0\0", {0, 1}, {0: 0, 1: 1}, range(2), iter([0, 0]), 0]:
            if value not in ([0, 0], (0, 0)):
                for page in range(3):
                    with self.subTest(value=value, page=page):
                        refused(self, BadMarks, bitmap, A[:page] + [value] + A[page + 1:])

    def test_lists_that_were_passed_in_may_be_changed(self):
        row = [2, 0]
        rows = [row, (1, 1), [0, 0]]
        made = bitmap(rows)
        self.assertEqual(rows, [[2, 0], (1, 1), [0, 0]])
        row[0] = 1
        rows[1] = [2, 2]
        rows.clear()
        self.assertEqual(list(made), [(2, 0), (1, 1), (0, 0)])

    def test_filled(self):
        for mark in range(3):
            for shape in (SHAPE, Shape(1, 1), Shape(16, 8, columns=3)):
                made = Bitmap.filled(shape, mark)
                self.assertIs(made.shape, shape)
                self.assertEqual(list(made), [(mark,) * shape.slots] * shape.pages)

    def test_filled_with_values_that_are_no_mark(self):
        for value in NO_MARKS:
            with self.subTest(value=value):
                refused(self, BadMarks, Bitmap.filled, SHAPE, value)


class Reading(unittest.TestCase):
    def test_the_example(self):
        a = bitmap(A)
        self.assertEqual([a.kind(0), a.kind(1), a.kind(2), a.size, a.forgotten(0).size, a.forgotten(2).size],
                         ["exact", "whole", "blank", 2, 1, 3])

    def test_mark_and_marks_of(self):
        for rows in (A, B):
            made = bitmap(rows)
            self.assertEqual([made.mark((page, slot)) for page, slot in SHAPE.addresses()], sum(rows, []))
            self.assertEqual([made.marks_of(page) for page in range(3)], [tuple(row) for row in rows])
            self.assertEqual(list(made), [made.marks_of(page) for page in range(3)])
            self.assertEqual(list(made), list(made))

    def test_kinds(self):
        for rows in every_mark(Shape(1, 3)):
            marks = set(rows[0])
            expected = "blank" if marks == {0} else "whole" if marks == {1} else "exact"
            self.assertEqual(bitmap(rows, Shape(1, 3)).kind(0), expected)

    def test_entries_of_a_chunk(self):
        for kinds, entries in [("bbb", 0), ("bwb", 1), ("www", 1), ("bbx", 1), ("xyz", 3), ("wxw", 2), ("zzw", 3),
                               ("b", 0), ("w", 1), ("y", 1), ("wz", 2)]:
            self.assertEqual(of_kinds(kinds, 3).entries(0), entries)

    def test_entries_and_size_where_the_last_chunk_is_full_and_where_it_is_not(self):
        for kinds, chunk, entries in [("xwwybb", 2, [2, 2, 0]), ("xwwyw", 2, [2, 2, 1]), ("wwwww", 2, [1, 1, 1]),
                                      ("xyz", 2, [2, 1]), ("bwb", 2, [1, 0]), ("bxwx", 4, [3]), ("wxw", 1, [1, 1, 1]),
                                      ("bzw", 16, [2]), ("xywwxyww", 3, [3, 3, 1])]:
            made = of_kinds(kinds, chunk)
            self.assertEqual([made.entries(at) for at in range(len(entries))], entries)
            self.assertEqual(made.size, sum(entries))

    def test_the_greatest_shape(self):
        shape = Shape(16, 8, chunk=16, columns=3)
        self.assertEqual([Bitmap.filled(shape, mark).size for mark in range(3)], [0, 1, 16])
        self.assertEqual(Bitmap.filled(Shape(16, 8, chunk=5), 1).size, 4)

    def test_values_that_are_no_place(self):
        made = bitmap(A)
        for call, values in [(made.mark, NO_ADDRESSES), (made.marks_of, NO_PAGES), (made.kind, NO_PAGES),
                             (made.entries, NO_CHUNKS)]:
            for value in values:
                with self.subTest(call=call.__name__, value=value):
                    refused_with(self, NoPlace, "place", value, call, value)

    def test_in(self):
        made = bitmap(A)
        self.assertEqual([address for address in SHAPE.addresses() if address in made], [(0, 0), (1, 0), (1, 1)])
        for address in SHAPE.addresses():
            for mark in range(3):
                self.assertIs(address in made.marked(address, mark), mark != 0)
        for value in NO_ADDRESSES + [2, 1, (1, 1, 1), [0, 0], (2, 0), (1, 1.0)]:
            self.assertIs(value in made, False)
            self.assertIs(value in Bitmap.filled(SHAPE, 2), value == (2, 0) and isinstance(value, tuple))


class Changing(unittest.TestCase):
    def test_marked(self):
        for address in SHAPE.addresses():
            for mark in range(3):
                old = bitmap(A)
                new = old.marked(address, mark)
                expected = [list(row) for row in A]
                expected[address[0]][address[1]] = mark
                self.assertEqual(list(new), [tuple(row) for row in expected])
                self.assertEqual(list(old), [tuple(row) for row in A])
                self.assertIs(new.shape, SHAPE)

    def test_marked_refuses_the_place_before_the_mark(self):
        made = bitmap(A)
        for value in NO_ADDRESSES:
            for mark in (0, 3, None):
                refused_with(self, NoPlace, "place", value, made.marked, value, mark)
        for value in NO_MARKS:
            refused(self, BadMarks, made.marked, (0, 0), value)
        self.assertEqual(list(made), [tuple(row) for row in A])

    def test_forgotten(self):
        for many in range(4):
            for pages in itertools.product(range(3), repeat=many):
                old = bitmap(A)
                new = old.forgotten(*pages)
                self.assertEqual(list(new), [(1, 1) if page in pages else tuple(row) for page, row in enumerate(A)])
                self.assertEqual(list(old), [tuple(row) for row in A])
                self.assertIs(new.shape, SHAPE)

    def test_forgotten_refuses_the_first_value_that_is_no_page(self):
        made = bitmap(A)
        for value in NO_PAGES:
            for pages in ([value], [value, "worse"], [0, 2, value], [1, value, 7]):
                with self.subTest(pages=pages):
                    refused_with(self, NoPlace, "place", value, made.forgotten, *pages)
        self.assertEqual(list(made), [tuple(row) for row in A])

    def test_the_size_after_forgetting(self):
        for kinds in itertools.product("bwxz", repeat=5):
            made = of_kinds(kinds, 2)
            for page, kind in enumerate(kinds):
                steps = {"b": (0, 1), "w": (0,), "x": (-1, 0), "z": (-1, 0)}[kind]
                self.assertIn(made.forgotten(page).size - made.size, steps)

    def test_forgetting_a_blank_page_costs_where_the_chunk_has_no_whole_one(self):
        self.assertEqual([of_kinds("bw", 2).forgotten(0).size, of_kinds("bw", 1).forgotten(0).size], [1, 2])
        self.assertEqual([of_kinds("xx", 2).forgotten(0).size, of_kinds("xx", 2).forgotten(0, 1).size], [2, 1])


class Joining(unittest.TestCase):
    def test_the_example(self):
        a, b = bitmap(A), bitmap(B)
        self.assertEqual([list(a & b), list(a | b), list(a - b)],
                         [[(1, 0), (1, 0), (0, 0)], [(2, 2), (2, 1), (2, 2)], [(1, 0), (0, 1), (0, 0)]])

    def test_all_nine_pairs_of_marks(self):
        shape = Shape(3, 3)
        a = bitmap([[0, 0, 0], [1, 1, 1], [2, 2, 2]], shape)
        b = bitmap([[0, 1, 2]] * 3, shape)
        self.assertEqual(list(a & b), [(0, 0, 0), (0, 1, 1), (0, 1, 2)])
        self.assertEqual(list(a | b), [(0, 1, 2), (1, 1, 2), (2, 2, 2)])
        self.assertEqual(list(a - b), [(0, 0, 0), (1, 1, 0), (2, 1, 0)])
        self.assertEqual([list(a), list(b)], [[(0,) * 3, (1,) * 3, (2,) * 3], [(0, 1, 2)] * 3])

    def test_the_size_is_at_most_the_sum_of_the_sizes(self):
        for chunk, many in ((1, 2), (2, 3), (3, 2)):
            made = [of_kinds(kinds, chunk) for kinds in itertools.product("bwxz", repeat=many)]
            for a, b in itertools.product(made, repeat=2):
                for joined in (a & b, a | b, a - b):
                    self.assertLessEqual(joined.size, a.size + b.size)

    def test_shapes_that_are_alike(self):
        a, b = bitmap(A), Bitmap(Shape(3, 2, chunk=2), B)
        self.assertEqual(list(a & b), list(a & bitmap(B)))
        self.assertIs((a | b).shape.__class__, Shape)
        self.assertIs(a.tells_all(b), False)

    def test_shapes_that_are_not_alike(self):
        self.assertEqual(len(other_shapes(SHAPE)), 8)
        for shape in other_shapes(SHAPE):
            for mark in range(3):
                a, b = bitmap(A), Bitmap.filled(shape, mark)
                for one, two in ((a, b), (b, a)):
                    refused(self, OtherShape, lambda: one & two)
                    refused(self, OtherShape, lambda: one | two)
                    refused(self, OtherShape, lambda: one - two)
                    refused(self, OtherShape, one.tells_all, two)

    def test_as_many_chunks_do_not_make_shapes_alike(self):
        a, b = Bitmap.filled(Shape(3, 2, chunk=3), 1), Bitmap.filled(Shape(3, 2, chunk=4), 1)
        refused(self, OtherShape, lambda: a & b)
        refused(self, OtherShape, a.tells_all, b)


class TellingAll(unittest.TestCase):
    def test_each_mark_of_the_other_is_maybe_or_equal(self):
        shape = Shape(1, 2)
        for ours, theirs in itertools.product(every_mark(shape), repeat=2):
            expected = all([their == 1 or their == our for our, their in zip(ours[0], theirs[0])])
            self.assertIs(bitmap(ours, shape).tells_all(bitmap(theirs, shape)), expected)

    def test_one_mark_at_each_address(self):
        for address in SHAPE.addresses():
            a = bitmap(A)
            for mark in range(3):
                self.assertIs(a.tells_all(a.marked(address, mark)), mark in (1, a.mark(address)))

    def test_itself_and_after_forgetting(self):
        for rows in (A, B, [[0, 0]] * 3, [[1, 1]] * 3, [[2, 2]] * 3):
            made = bitmap(rows)
            self.assertIs(made.tells_all(made), True)
            for many in range(4):
                for pages in itertools.combinations(range(3), many):
                    self.assertIs(made.tells_all(made.forgotten(*pages)), True)
            self.assertIs(made.forgotten(0, 1, 2).tells_all(made), rows == [[1, 1]] * 3)

    def test_joined_bitmaps(self):
        shape = Shape(1, 2)
        made = [bitmap(rows, shape) for rows in every_mark(shape)]
        for a, b, c in itertools.product(made, repeat=3):
            if a.tells_all(b):
                self.assertTrue((a & c).tells_all(b & c) and (c & a).tells_all(c & b))
                self.assertTrue((a | c).tells_all(b | c) and (c | a).tells_all(c | b))
                self.assertTrue((a - c).tells_all(b - c) and (c - a).tells_all(c - b))

    def test_nothing_changes(self):
        a, b = bitmap(A), bitmap(B)
        a.tells_all(b)
        list(a).clear()
        self.assertEqual([list(a), list(b)], [[tuple(row) for row in rows] for rows in (A, B)])
