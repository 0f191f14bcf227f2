import unittest

from tests import fitting
from tests.fitting import drawing, drawn_hint, pages_of
from tests.samples import ODD_VALUES, other_shapes, refused, refused_with
from wholepages.bitmaps import Bitmap
from wholepages.errors import NameTaken, NoName, NoPlace, NoRoom, OtherShape, TooMany
from wholepages.hints import Hint
from wholepages.shapes import Shape
from wholepages.shelves import Shelf, fit
from wholepages.tables import Table

SHAPES = [Shape(1, 1, chunk=1, columns=1), Shape(4, 2, chunk=2), Shape(5, 2, chunk=2), Shape(5, 1, chunk=1),
          Shape(6, 2, chunk=4), Shape(6, 3, chunk=16), Shape(16, 2, chunk=5)]
SHAPE = Shape(5, 2, chunk=2)
X, W, B = (2, 0), (1, 1), (0, 0)
NO_PAGES = [value for value in ODD_VALUES if not isinstance(value, int)] + [True, False, -1, 5, 10 ** 18, (0, 0)]
NO_ADDRESSES = ODD_VALUES + [(5, 0), (0, 2), (-1, 0), (0, -1), 0]


def hint_of(*pages, shape=SHAPE, predicate=("<", 0, 5)):
    return Hint(predicate, Bitmap(shape, pages))


def marks_of(hints):
    return [pages_of(hint) for hint in hints]


def shelf_of(hints, room=64, shape=SHAPE):
    """A shelf with these hints, which are named a, b, c and d."""
    shelf = Shelf(shape, room)
    for name, hint in zip("abcd", hints):
        shelf.keep(name, hint)
    return shelf


def state(shelf):
    hints = [shelf.hint(name) for name in shelf.names()]
    return (shelf.names(), shelf.room, shelf.size, marks_of(hints), [hint.predicate for hint in hints])


class Fitting(unittest.TestCase):
    def test_a_plain_reading(self):
        draw = drawing(1)
        for shape in SHAPES:
            for many in (0, 1, 2, 4, 7):
                hints = [drawn_hint(draw, shape, ("<", 0, number)) for number in range(many)]
                marks = marks_of(hints)
                full = sum([hint.size for hint in hints])
                for room in range(-2, full + 3):
                    expected = fitting.fitted(marks, shape, room)
                    if expected is None:
                        raised = refused(self, NoRoom, fit, hints, room)
                        self.assertEqual([raised.offered, list(vars(raised))], [room, ["offered"]])
                    else:
                        found = fit(hints, room)
                        self.assertEqual(marks_of(found), expected)
                        self.assertEqual([hint.predicate for hint in found], [hint.predicate for hint in hints])
                        self.assertLessEqual(sum([hint.size for hint in found]), room)
                    self.assertEqual(expected is None, room < fitting.least_room(marks, shape))
                self.assertEqual(marks_of(hints), marks)

    def test_only_exact_pages_are_forgotten(self):
        draw = drawing(2)
        for shape in SHAPES:
            hints = [drawn_hint(draw, shape) for _ in range(3)]
            for room in range(fitting.least_room(marks_of(hints), shape), sum([hint.size for hint in hints]) + 1):
                for before, after in zip(hints, fit(hints, room)):
                    for page in range(shape.pages):
                        if before.bitmap.kind(page) == "exact" and after.bitmap.kind(page) == "whole":
                            continue
                        self.assertEqual(after.bitmap.marks_of(page), before.bitmap.marks_of(page))

    def test_the_most_entries_first(self):
        hints = [hint_of(X, B, B, X, B), hint_of(B, B, X, X, X)]
        self.assertEqual(marks_of(fit(hints, 5)), [[X, B, B, X, B], [B, B, X, X, X]])
        self.assertEqual(marks_of(fit(hints, 4)), [[X, B, B, X, B], [B, B, W, W, X]])
        refused(self, NoRoom, fit, hints, 3)

    def test_of_several_the_earliest_hint_and_its_lowest_chunk(self):
        hints = [hint_of(B, X, X, X, X), hint_of(X, X, X, W, B), hint_of(X, X, X, X, X)]
        self.assertEqual(marks_of(fit(hints, 12)), [[B, X, W, W, X], [X, X, X, W, B], [X, X, X, X, X]])
        self.assertEqual(marks_of(fit(hints, 11)), [[B, X, W, W, X], [W, W, X, W, B], [X, X, X, X, X]])
        self.assertEqual(marks_of(fit(hints, 10)), [[B, X, W, W, X], [W, W, W, W, B], [X, X, X, X, X]])
        self.assertEqual(marks_of(fit(hints, 9)), [[B, X, W, W, X], [W, W, W, W, B], [W, W, X, X, X]])
        self.assertEqual(marks_of(fit(hints, 8)), [[B, X, W, W, X], [W, W, W, W, B], [W, W, W, W, X]])
        self.assertEqual(refused(self, NoRoom, fit, hints, 7).offered, 7)

    def test_no_hint(self):
        self.assertEqual([fit([], 0), fit([], 9)], [[], []])
        for room in (-1, -2, -10 ** 18):
            self.assertEqual(refused(self, NoRoom, fit, [], room).offered, room)

    def test_blank_hints_need_no_room(self):
        hints = [Hint(("<", 0, 5), Bitmap.filled(SHAPE, 0))] * 3
        self.assertEqual(marks_of(fit(hints, 0)), [[B] * 5] * 3)
        refused(self, NoRoom, fit, hints, -1)

    def test_the_lists(self):
        hints = [hint_of(X, X, X, X, X)]
        given = list(hints)
        for room in (3, 4, 5, 9):
            found = fit(hints, room)
            self.assertIsNot(found, hints)
            found.clear()
        self.assertEqual([len(hints), hints[0] is given[0], pages_of(hints[0])], [1, True, [X] * 5])


class MakingShelves(unittest.TestCase):
    def test_rooms(self):
        for shape in SHAPES:
            least = 4 * len(fitting.chunks_of(shape))
            for room in (least, least + 1, 64, 10 ** 18):
                shelf = Shelf(shape, max(room, least))
                self.assertEqual([shelf.room, shelf.size, shelf.names()], [max(room, least), 0, []])
            for room in (least - 1, 0, -1, -10 ** 18):
                raised = refused(self, NoRoom, Shelf, shape, room)
                self.assertEqual([raised.offered, list(vars(raised))], [room, ["offered"]])


class Keeping(unittest.TestCase):
    def test_keep(self):
        shelf = Shelf(SHAPE, 12)
        hints = [hint_of(X, X, B, B, B), hint_of(X, X, X, X, X), hint_of(B, B, B, W, X), hint_of(X, X, X, X, W)]
        sizes = []
        for name, hint in zip(["one", "two", "b", "a"], hints):
            self.assertIsNone(shelf.keep(name, hint))
            sizes.append(shelf.size)
        self.assertEqual([sizes, shelf.names()], [[2, 7, 9, 12], ["one", "two", "b", "a"]])
        self.assertEqual(marks_of([shelf.hint(name) for name in shelf.names()]),
                         [[W, W, B, B, B], [W, W, X, X, X], [B, B, B, W, X], [X, X, X, X, W]])
        self.assertEqual(marks_of(hints), [[X, X, B, B, B], [X] * 5, [B, B, B, W, X], [X, X, X, X, W]])

    def test_keep_fits_all_hints(self):
        shelf = shelf_of([hint_of(X, X, X, X, X)] * 3, 15)
        self.assertEqual(shelf.size, 15)
        shelf.keep("d", hint_of(B, X, B, B, B))
        self.assertEqual(marks_of([shelf.hint(name) for name in "abcd"]),
                         [[W, W, X, X, X], [X] * 5, [X] * 5, [B, X, B, B, B]])

    def test_names_in_the_order_of_keeping(self):
        shelf = shelf_of([hint_of(X, X, X, X, X)] * 4)
        self.assertIsNone(shelf.drop("b"))
        self.assertEqual([shelf.names(), shelf.size], [["a", "c", "d"], 15])
        shelf.keep("b", hint_of(B, B, B, B, X))
        self.assertEqual([shelf.names(), shelf.size], [["a", "c", "d", "b"], 16])
        shelf.forget("c", 0)
        shelf.touched((0, 0))
        shelf.resize(12)
        self.assertEqual(shelf.names(), ["a", "c", "d", "b"])
        shelf.drop("a")
        shelf.drop("b")
        shelf.keep("a", hint_of(B, B, B, B, X))
        self.assertEqual(shelf.names(), ["c", "d", "a"])
        shelf.names().clear()
        self.assertEqual(shelf.names(), ["c", "d", "a"])

    def test_name_taken_too_many_and_other_shape_in_their_order(self):
        good = hint_of(X, X, X, X, X)
        shelf = Shelf(SHAPE, 64)
        for many, name in enumerate("abcd"):
            for shape in other_shapes(SHAPE):
                bad = Hint(("both",), Bitmap.filled(shape, 1))
                refused(self, OtherShape, shelf.keep, name, bad)
                if many:
                    taken = "".join("a")
                    refused_with(self, NameTaken, "name", taken, shelf.keep, taken, bad)
            shelf.keep(name, good)
        before = state(shelf)
        for name in ("a", "d"):
            refused_with(self, NameTaken, "name", name, shelf.keep, name, good)
            refused_with(self, NameTaken, "name", name, shelf.keep, name, bad)
        for hint in (good, bad):
            raised = refused(self, TooMany, shelf.keep, "e", hint)
            self.assertEqual([raised.many, list(vars(raised))], [5, ["many"]])
        self.assertEqual(state(shelf), before)
        shelf.drop("b")
        refused(self, OtherShape, shelf.keep, "e", bad)
        shelf.keep("e", good)
        self.assertEqual(shelf.names(), ["a", "c", "d", "e"])

    def test_a_shape_that_is_alike(self):
        shelf = Shelf(Shape(5, 2, chunk=2), 12)
        shelf.keep("a", hint_of(X, X, X, X, X))
        self.assertEqual(shelf.size, 5)

    def test_no_name(self):
        shelf = shelf_of([hint_of(X, X, X, X, X)] * 2)
        before = state(shelf)
        for name in ("c", "aa", "x"):
            given = "".join(name)
            refused_with(self, NoName, "name", given, shelf.hint, given)
            refused_with(self, NoName, "name", given, shelf.drop, given)
            for pages in ((), (0,), ("bad",), (9, None)):
                refused_with(self, NoName, "name", given, shelf.forget, given, *pages)
        shelf.drop("a")
        refused(self, NoName, shelf.hint, "a")
        refused(self, NoName, shelf.drop, "a")
        self.assertNotEqual(state(shelf), before)


class Forgetting(unittest.TestCase):
    def test_none_one_and_several_pages(self):
        for pages, marks in [((), [X, X, B, W, X]), ((0,), [W, X, B, W, X]), ((2,), [X, X, W, W, X]),
                             ((3,), [X, X, B, W, X]), ((4, 0, 1), [W, W, B, W, W]), ((1, 1), [X, W, B, W, X]),
                             (tuple(range(5)), [W] * 5)]:
            shelf = shelf_of([hint_of(X, X, X, X, X), hint_of(X, X, B, W, X)])
            self.assertIsNone(shelf.forget("b", *pages))
            self.assertEqual([pages_of(shelf.hint("a")), pages_of(shelf.hint("b"))], [[X] * 5, marks])

    def test_a_blank_page_may_need_room(self):
        hints = [hint_of(B, B, B, B, X), hint_of(X, X, X, X, X), hint_of(X, X, X, X, W)]
        shelf = shelf_of(hints + [hint_of(B, B, B, B, X)], 12)
        self.assertEqual(shelf.size, 12)
        shelf.forget("a", 0)
        self.assertEqual(shelf.size, 12)
        self.assertEqual([pages_of(shelf.hint("a")), pages_of(shelf.hint("b"))], [[W, B, B, B, X], [W, W, X, X, X]])

    def test_values_that_are_no_page(self):
        shelf = shelf_of([hint_of(X, X, X, X, X)] * 2)
        before = state(shelf)
        for bad in NO_PAGES:
            for pages in ((bad,), (0, bad), (0, 4, bad, "worse"), (bad, 9, 1)):
                refused_with(self, NoPlace, "place", bad, shelf.forget, "a", *pages)
        self.assertEqual(state(shelf), before)


class Touching(unittest.TestCase):
    def test_the_mark_becomes_maybe_in_every_hint(self):
        table = Table.of(SHAPE, [(3, 3), None, (9, 9)])
        for addresses in ([], [(0, 0)], [(0, 1)], [(2, 1), (0, 0), (0, 1), (0, 0)], SHAPE.addresses()):
            hints = [Hint.exact(("<", 0, 5), table), hint_of(W, X, B, B, X), hint_of(B, B, B, B, B)]
            shelf = shelf_of(hints)
            self.assertIsNone(shelf.touched(*addresses))
            for name, hint in zip("abc", hints):
                for address in SHAPE.addresses():
                    mark = 1 if address in addresses else hint.bitmap.mark(address)
                    self.assertEqual(shelf.hint(name).bitmap.mark(address), mark)
                self.assertEqual(shelf.hint(name).predicate, hint.predicate)

    def test_fitted_once_all_are_touched(self):
        # Fitted after the first touch already, the hint a would lose its chunk 0.
        hints = [hint_of(X, X, X, X, X)] * 2 + [hint_of(B, B, B, (0, 1), X)]
        shelf = shelf_of(hints, 12)
        shelf.touched((3, 0), (2, 0), (2, 1))
        expected = fitting.fitted([[X, X, (1, 1), (1, 0), X]] * 2 + [[B, B, (1, 1), (1, 1), X]], SHAPE, 12)
        self.assertEqual(marks_of([shelf.hint(name) for name in "abc"]), expected)
        self.assertEqual(expected[0], [X, X, (1, 1), (1, 0), X])
        one_by_one = shelf_of(hints, 12)
        for address in ((3, 0), (2, 0), (2, 1)):
            one_by_one.touched(address)
        self.assertNotEqual(state(one_by_one), state(shelf))

    def test_touching_may_need_room(self):
        shelf = shelf_of([hint_of(X, X, X, X, X), hint_of(X, X, X, B, B)], 12)
        shelf.keep("c", hint_of(B, B, X, X, X))
        shelf.keep("d", hint_of(B, B, B, B, X))
        self.assertEqual(shelf.size, 12)
        shelf.touched((0, 0))
        self.assertEqual(marks_of([shelf.hint(name) for name in "abcd"]),
                         [[W, W, W, W, X], [(1, 0), X, X, B, B], [(1, 0), B, X, X, X], [(1, 0), B, B, B, X]])

    def test_values_that_are_no_address(self):
        for hints in ([], [hint_of(X, X, X, X, X)] * 2):
            shelf = shelf_of(hints)
            before = state(shelf)
            for bad in NO_ADDRESSES:
                for addresses in ((bad,), ((0, 0), bad), ((0, 0), (1, 1), bad, "worse"), (bad, (9, 9))):
                    refused_with(self, NoPlace, "place", bad, shelf.touched, *addresses)
            self.assertEqual(state(shelf), before)


class Resizing(unittest.TestCase):
    def test_rooms(self):
        hints = [hint_of(X, X, X, X, X), hint_of(B, X, X, B, X), hint_of(W, X, W, X, X)]
        for room in range(12, 20):
            shelf = shelf_of(hints)
            self.assertIsNone(shelf.resize(room))
            self.assertEqual(marks_of([shelf.hint(name) for name in "abc"]),
                             fitting.fitted(marks_of(hints), SHAPE, room))
            self.assertEqual([shelf.room, shelf.size <= room], [room, True])
            before = state(shelf)
            shelf.resize(100)
            self.assertEqual(state(shelf), (before[0], 100, *before[2:]))

    def test_no_room(self):
        shelf = shelf_of([hint_of(X, X, X, X, X)] * 2)
        before = state(shelf)
        for room in (11, 4, 0, -1, -10 ** 18):
            raised = refused(self, NoRoom, shelf.resize, room)
            self.assertEqual([raised.offered, list(vars(raised))], [room, ["offered"]])
        self.assertEqual(state(shelf), before)


class Histories(unittest.TestCase):
    def check(self, shelf, kept, room):
        marks = [pages for pages, _ in kept.values()]
        self.assertEqual(state(shelf), (list(kept), room, sum([fitting.size(pages, shelf.shape) for pages in marks]),
                                        marks, [predicate for _, predicate in kept.values()]))
        self.assertLessEqual(shelf.size, room)

    def test_drawn_calls(self):
        draw = drawing(3)
        for shape in SHAPES:
            room = least = 4 * len(fitting.chunks_of(shape))
            shelf, kept = Shelf(shape, room), {}
            for step in range(80):
                word = draw.choice(["keep", "keep", "drop", "forget", "touched", "resize"])
                name = draw.choice("abcdef")
                if word == "keep" and len(kept) < 4 and name not in kept:
                    hint = drawn_hint(draw, shape, ("<", 0, step))
                    kept[name] = (pages_of(hint), hint.predicate)
                    shelf.keep(name, hint)
                elif word == "drop" and name in kept:
                    del kept[name]
                    shelf.drop(name)
                elif word == "forget" and name in kept:
                    pages = [draw.randrange(shape.pages) for _ in range(draw.randrange(4))]
                    kept[name] = (fitting.forgotten(kept[name][0], pages), kept[name][1])
                    shelf.forget(name, *pages)
                elif word == "touched":
                    addresses = [draw.choice(shape.addresses()) for _ in range(draw.randrange(4))]
                    kept = {name: ([tuple([1 if (page, slot) in addresses else mark
                                           for slot, mark in enumerate(marks)]) for page, marks in enumerate(pages)],
                                   predicate) for name, (pages, predicate) in kept.items()}
                    shelf.touched(*addresses)
                elif word == "resize":
                    room = least + draw.choice([0, 0, 1, 3, 20])
                    shelf.resize(room)
                after = fitting.fitted([pages for pages, _ in kept.values()], shape, room)
                kept = {name: (pages, kept[name][1]) for name, pages in zip(kept, after)}
                self.check(shelf, kept, room)
