import copy
import random
import unittest
from unittest import mock

from tests import deeds
from tests.deeds import ASKED, NEW_ROWS, NO_ADDRESSES, NO_DEEDS, NO_ROWS, ROWS, SHAPE, do, outcome, rows_of
from tests.samples import refused, refused_with
from wholepages.bounds import BoundsIndex
from wholepages.columns import ColumnIndex
from wholepages.errors import (BadDeed, BadPredicate, BadRow, BadShape, EmptySlot, NameTaken, NoName, NoPlace, Refused,
                               SlotTaken, TableFull, TooWide)
from wholepages.hints import Hint
from wholepages.indexes import PartialIndex
from wholepages.shapes import Shape
from wholepages.stores import Store
from wholepages.tables import Table

NAMES = ["own", "first", "second", "each", "pages"]
WIDE = [("both", *[("=", column, 2 * number) for number in range(8)]) for column in range(2)]
BOTH_WIDE = ("both", *WIDE[0][1:8], *WIDE[1][1:9])
# Deeds that a store with the first three rows of ROWS refuses, with the error, its field and its value.
REFUSED_DEEDS = [
    (("put", (1, True)), BadRow, {"row": (1, True)}), (("put_at", (0, 0), (1, 2)), SlotTaken, {"address": (0, 0)}),
    (("put_at", (3, 0), (1, 2)), NoPlace, {"place": (3, 0)}), (("put_at", (2, 0), 5), BadRow, {"row": 5}),
    (("take", (2, 1)), EmptySlot, {"address": (2, 1)}), (("take", [0, 0]), NoPlace, {"place": [0, 0]}),
    (("change", (2, 1), (1, 2)), EmptySlot, {"address": (2, 1)}), (("change", (0, 0), None), BadRow, {"row": None}),
    (("change", 0, (1, 2)), NoPlace, {"place": 0}), (("put",), BadDeed, {"deed": ("put",)})]


def made(rows=ROWS[:3], shape=SHAPE):
    """A store with these rows, and indexes of each kind that were made before the rows came."""
    store = Store(shape)
    deeds.make_indexes(store)
    for row in rows:
        store.put(row)
    return store


def told(store):
    return deeds.told_by_all(store.shape, NAMES, store.hint, store.pair)


def told_by(indexes, shape=SHAPE):
    return {name: deeds.told(shape, index.hint, index.pair) for name, index in indexes.items()}


def state(store):
    return (rows_of(store.table_copy()), told(store))


def following_call(table, indexes, deed):
    """Do the deed on a table, and tell the indexes as the document says; return the outcome."""
    found = outcome(do, table, deed)
    if found[0] == "returned":
        address = found[1] if deed[0] in ("put", "put_at") else deed[1]
        for index in indexes.values():
            if deed[0] in ("take", "change"):
                index.left(address, found[1])
            if deed[0] != "take":
                index.entered(address, table.row_at(address))
    return found


class SingleDeeds(unittest.TestCase):
    def test_a_new_store(self):
        store = Store(SHAPE)
        self.assertIs(store.shape, SHAPE)
        self.assertEqual(rows_of(store.table_copy()), [])
        refused_with(self, NoName, "name", "own", store.hint, "own", ("both",))

    def test_results(self):
        store = made([])
        self.assertEqual([store.put((3, 10)), store.put([7, None]), store.put_at((2, 1), [5, 5]), store.put((1, 1))],
                         [(0, 0), (0, 1), (2, 1), (1, 0)])
        self.assertEqual([store.take((0, 1)), store.change((0, 0), [4, 4]), store.put((2, 2))],
                         [(7, None), (3, 10), (0, 1)])
        self.assertEqual(rows_of(store.table_copy()),
                         [((0, 0), (4, 4)), ((0, 1), (2, 2)), ((1, 0), (1, 1)), ((2, 1), (5, 5))])
        self.assertIs(store.take((2, 1)).__class__, tuple)

    def test_drawn_deeds_are_as_for_a_table_and_told_to_each_index(self):
        draw = random.Random(1)
        for rows in ([], ROWS[:3], ROWS):
            store, table = made(rows), Table.of(SHAPE, rows)
            indexes = deeds.own_indexes(table)
            for _ in range(60):
                deed = deeds.drawn_deed(draw, SHAPE)
                self.assertEqual(outcome(do, store, deed), following_call(table, indexes, deed))
                self.assertEqual(rows_of(store.table_copy()), rows_of(table))
            self.assertEqual(told(store), told_by(indexes))

    def test_refusals_in_their_order(self):
        store, full = made(), made(ROWS)
        before = (state(store), state(full))
        for bad in NO_ROWS:
            refused_with(self, BadRow, "row", bad, full.put, bad)
            refused_with(self, BadRow, "row", bad, store.put, bad)
            refused_with(self, BadRow, "row", bad, store.put_at, (0, 0), bad)
            refused_with(self, BadRow, "row", bad, store.change, (2, 0), bad)
        for value in NO_ADDRESSES:
            refused_with(self, NoPlace, "place", value, store.put_at, value, "bad")
            refused_with(self, NoPlace, "place", value, store.take, value)
            refused_with(self, NoPlace, "place", value, store.change, value, "bad")
        address = (0, 0)
        refused_with(self, SlotTaken, "address", address, store.put_at, address, (1, 1))
        address = (2, 1)
        refused_with(self, EmptySlot, "address", address, store.take, address)
        refused_with(self, EmptySlot, "address", address, store.change, address, (1, 1))
        refused(self, TableFull, full.put, (1, 1))
        self.assertEqual((state(store), state(full)), before)

    def test_what_an_index_is_told(self):
        events = []

        class Listening(PartialIndex):
            def entered(self, address, row):
                events.append(("entered", address, row))
                super().entered(address, row)

            def left(self, address, row):
                events.append(("left", address, row))
                super().left(address, row)

        with mock.patch("wholepages.stores.PartialIndex", Listening):
            store = made([])
        for deed, told_of in [
                (("put", [3, 10]), [("entered", (0, 0), (3, 10))]),
                (("put_at", (2, 0), (5, 5)), [("entered", (2, 0), (5, 5))]),
                (("change", (2, 0), (6, 6)), [("left", (2, 0), (5, 5)), ("entered", (2, 0), (6, 6))]),
                (("change", (2, 0), (6, 6)), [("left", (2, 0), (6, 6)), ("entered", (2, 0), (6, 6))]),
                (("take", (0, 0)), [("left", (0, 0), (3, 10))])]:
            do(store, deed)
            self.assertEqual(events, told_of)
            events.clear()
        for deed in [("put", 5), ("put_at", (2, 0), (1, 1)), ("take", (1, 1)), ("change", (0, 0), (1, 1))]:
            self.assertNotEqual(outcome(do, store, deed)[0], "returned")
        refused(self, Refused, store.apply, [("put", (1, 1)), ("take", (2, 0)), ("take", (2, 0))])
        self.assertEqual(events, [])
        store.apply([("put", (1, 1)), ("take", (0, 0)), ("change", (2, 0), (2, 2))])
        self.assertEqual(events, [("entered", (0, 0), (1, 1)), ("left", (0, 0), (1, 1)), ("left", (2, 0), (6, 6)),
                                  ("entered", (2, 0), (2, 2))])

    def test_no_argument_is_changed(self):
        store = made([])
        row = [4, None]
        store.put(row)
        store.change((0, 0), row)
        self.assertEqual(row, [4, None])
        row[0] = 9
        self.assertEqual(store.table_copy().row_at((0, 0)), (4, None))
        self.assertEqual(store.hint("first", ("=", 0, 4)).bitmap.mark((0, 0)), 2)


class Batches(unittest.TestCase):
    def test_results(self):
        store = made()
        batch = [("put", [4, 4]), ("put_at", (2, 0), (5, 5)), ("take", (0, 0)), ("change", (0, 1), [8, 8]),
                 ("put", (1, None)), ("take", (1, 1)), ("put", (2, 2))]
        given = copy.deepcopy(batch)
        results = store.apply(batch)
        self.assertEqual(results, [(1, 1), (2, 0), (3, 10), (7, None), (0, 0), (4, 4), (1, 1)])
        self.assertEqual(batch, given)
        one_by_one = made()
        self.assertEqual([do(one_by_one, deed) for deed in batch], results)
        self.assertEqual(state(store), state(one_by_one))
        results.clear()
        batch.clear()
        self.assertEqual(state(store), state(one_by_one))

    def test_the_empty_batch(self):
        for rows in ([], ROWS):
            store = made(rows)
            before = state(store)
            self.assertEqual(store.apply([]), [])
            self.assertEqual(state(store), before)

    def test_a_deed_may_need_the_deeds_before_it(self):
        store = made(ROWS)
        self.assertEqual(store.apply([("take", (1, 1)), ("put", (0, 0)), ("change", (1, 1), (1, 1)), ("take", (1, 1)),
                                      ("put_at", (1, 1), (2, 2))]), [(9, 1), (1, 1), (0, 0), (1, 1), (1, 1)])
        refused(self, Refused, store.apply, [("take", (1, 1)), ("put", (0, 0)), ("put", (0, 0))])

    def test_drawn_batches(self):
        draw = random.Random(2)
        for rows in ([], ROWS[:3], ROWS):
            for _ in range(12):
                store, table = made(rows), Table.of(SHAPE, rows)
                indexes = deeds.own_indexes(table)
                before = state(store)
                batch = [deeds.drawn_deed(draw, SHAPE) for _ in range(draw.randrange(1, 6))]
                found = [following_call(table, indexes, deed) for deed in batch]
                bad = [number for number, (word, _) in enumerate(found) if word != "returned"]
                if bad:
                    raised = refused(self, Refused, store.apply, batch)
                    self.assertEqual([raised.number, list(vars(raised))], [bad[0], ["number"]])
                    self.assertEqual((raised.__cause__.__class__, vars(raised.__cause__)), found[bad[0]])
                    self.assertEqual(state(store), before)
                else:
                    self.assertEqual(store.apply(batch), [result for _, result in found])
                    self.assertEqual(state(store), (rows_of(table), told_by(indexes)))

    def test_refused_at_the_first_a_middle_and_the_last_deed(self):
        # The good deeds widen all bounds, and take what was there.
        good = [("put", (12, -4)), ("put_at", (2, 0), (None, None)), ("change", (1, 0), (-3, 13)), ("take", (0, 1))]
        for bad, error, fields in REFUSED_DEEDS:
            store = made()
            before = state(store)
            for number in range(len(good) + 1):
                batch = good[:number] + [bad] + good[number:]
                with self.subTest(bad=bad, number=number):
                    raised = refused(self, Refused, store.apply, batch)
                    self.assertEqual(raised.number, number)
                    self.assertIs(raised.__cause__.__class__, error)
                    self.assertEqual(vars(raised.__cause__), fields)
                    self.assertEqual(state(store), before)

    def test_the_first_refused_deed_is_told(self):
        raised = refused(self, Refused, made().apply, [("put", (1, 1)), ("take", (2, 2)), ("take", (2, 1)), None])
        self.assertEqual([raised.number, raised.__cause__.place], [1, (2, 2)])

    def test_a_full_table(self):
        store = made(ROWS)
        raised = refused(self, Refused, store.apply, [("take", (0, 0)), ("put", (1, 1)), ("put", (2, 2))])
        self.assertEqual([raised.number, raised.__cause__.__class__], [2, TableFull])
        self.assertEqual(rows_of(store.table_copy()), list(zip(SHAPE.addresses(), ROWS)))

    def test_values_that_are_no_deed(self):
        store = made()
        before = rows_of(store.table_copy())
        for bad in NO_DEEDS:
            for batch, number in (([bad], 0), ([("put", (1, 1)), bad], 1), ([bad, None, ("put", 5)], 0)):
                with self.subTest(bad=bad):
                    raised = refused(self, Refused, store.apply, batch)
                    self.assertEqual(raised.number, number)
                    self.assertIs(raised.__cause__.__class__, BadDeed)
                    self.assertEqual(list(vars(raised.__cause__)), ["deed"])
                    self.assertIs(raised.__cause__.deed, bad)
        self.assertEqual(rows_of(store.table_copy()), before)

    def test_what_the_items_are_is_checked_by_the_call(self):
        for word in ("put", "take"):
            for item in (None, [], "x", ("put",)):
                raised = refused(self, Refused, made().apply, [(word, item)])
                field = {"put": "row", "take": "place"}[word]
                self.assertIs(raised.__cause__.__class__, {"put": BadRow, "take": NoPlace}[word])
                self.assertIs(getattr(raised.__cause__, field), item)

    def test_bounds_stay_as_they_were(self):
        store = Store(SHAPE)
        store.index_bounds("each")
        store.put((3, 3))
        refused(self, Refused, store.apply, [("change", (0, 0), (100, None)), ("put", (-100, 5)), ("take", (2, 0))])
        for predicate in (("=", 0, 3), ("=", 1, 3)):
            self.assertEqual(list(store.hint("each", predicate).bitmap), [(2, 2), (0, 0), (0, 0)])
        store.apply([("change", (0, 0), (100, None)), ("take", (0, 0))])
        self.assertEqual(store.pair("each", (0, 0), ("<", 0, 50)), ((3, None), (50, None)))


class TableCopies(unittest.TestCase):
    def test_the_same_rows(self):
        for rows in ([], ROWS[:3], ROWS):
            copied = made(rows).table_copy()
            self.assertIs(copied.__class__, Table)
            self.assertIs(copied.shape, SHAPE)
            self.assertEqual(rows_of(copied), list(zip(SHAPE.addresses(), rows)))

    def test_later_deeds(self):
        store = made()
        copied = store.table_copy()
        before = state(store)
        copied.take((0, 0))
        copied.change((0, 1), (1, 1))
        copied.put((2, 2))
        self.assertEqual(state(store), before)
        rows = rows_of(copied)
        store.take((1, 0))
        store.put((6, 6))
        store.apply([("put", (9, 9)), ("change", (0, 0), (5, 5))])
        self.assertEqual(rows_of(copied), rows)
        self.assertEqual(store.put((4, 4)), (2, 0))


class Indexes(unittest.TestCase):
    def test_made_of_an_empty_a_partly_filled_and_a_full_table(self):
        for rows in ([], [None, (4, 4), None, None, (None, 2)], ROWS):
            store, table = Store(SHAPE), Table.of(SHAPE, rows)
            for address, row in table.walk():
                store.put_at(address, row)
            deeds.make_indexes(store)
            indexes = deeds.own_indexes(table)
            self.assertEqual(told(store), told_by(indexes))
            for deed in [("put", (2, 2)), ("take", (0, 1)), ("put_at", (2, 1), (7, 7)), ("change", (0, 0), (11, -2))]:
                self.assertEqual(outcome(do, store, deed), following_call(table, indexes, deed))
            self.assertEqual(told(store), told_by(indexes))

    def test_made_after_rows_left(self):
        store = Store(SHAPE)
        store.put((50, 50))
        store.change((0, 0), (3, 3))
        store.index_bounds("each", span=16)
        self.assertEqual(list(store.hint("each", ("=", 0, 3)).bitmap), [(2, 2)] * 3)

    def test_results_of_making(self):
        store = Store(SHAPE)
        self.assertEqual([store.index_rows("a", ("both",)), store.index_column("b", 0), store.index_bounds("c"),
                          store.index_bounds("abcdefghijkl", span=16), store.refresh("a")], [None] * 5)
        with self.assertRaises(TypeError):
            store.index_bounds("d", 2)
        self.assertIs(store.hint("a", ("both",)).__class__, Hint)

    def test_spans_columns_and_predicates_are_those_that_were_passed(self):
        table = Table.of(SHAPE, ROWS)
        store = made(ROWS)
        for kind, make, args in [(PartialIndex, store.index_rows, [("both",), ("<", 1, 5), ("missing", 1)]),
                                 (ColumnIndex, store.index_column, [0, 1])]:
            for number, value in enumerate(args):
                name = "ab"[kind is PartialIndex] + "xyz"[number]
                make(name, value)
                index = kind(SHAPE, value)
                index.refresh(table)
                self.assertEqual(deeds.told_by_all(SHAPE, [name], store.hint, store.pair),
                                 {name: deeds.told(SHAPE, index.hint, index.pair)})
        for span, name in ((1, "one"), (2, "two"), (3, "three"), (16, "most")):
            store.index_bounds(name, span=span)
            index = BoundsIndex(SHAPE, span=span)
            index.refresh(table)
            self.assertEqual(deeds.told_by_all(SHAPE, [name], store.hint, store.pair),
                             {name: deeds.told(SHAPE, index.hint, index.pair)})

    def test_name_taken_first(self):
        store = made()
        before = state(store)
        for name in NAMES:
            for call, value in [(store.index_rows, "bad"), (store.index_rows, ("both",)), (store.index_column, 7),
                                (store.index_column, 0), (store.index_bounds, None)]:
                given = "".join(name)
                more = [] if value is None else [value]
                refused_with(self, NameTaken, "name", given, call, given, *more)
            refused_with(self, NameTaken, "name", name, store.index_bounds, name, span=0)
        self.assertEqual(state(store), before)

    def test_a_refused_name_can_be_used(self):
        store = made()
        for value in (None, True, 2, -1, "0", (0,)):
            refused_with(self, NoPlace, "place", value, store.index_column, "new", value)
        for value in (None, ["<", 0, 5], ("<", 2, 5), ("both", *[("both",)] * 16)):
            refused_with(self, BadPredicate, "predicate", value, store.index_rows, "new", value)
        for value in (0, 17, True, None, "1"):
            refused(self, BadShape, store.index_bounds, "new", span=value)
        refused_with(self, NoName, "name", "new", store.hint, "new", ("both",))
        store.index_column("new", 1)
        self.assertEqual(store.pair("new", (0, 0), ("<", 0, 5)), ((4, 10), (None, 10)))

    def test_names_are_apart_in_each_store(self):
        one, other = made(), Store(SHAPE)
        refused(self, NoName, other.refresh, "own")
        other.index_rows("own", ("both",))
        self.assertNotEqual(list(one.hint("own", ("both",)).bitmap), list(other.hint("own", ("both",)).bitmap))


class AskingIndexes(unittest.TestCase):
    def test_refresh(self):
        store = made(ROWS)
        for deed in [("take", (0, 0)), ("change", (0, 1), (-4, 12)), ("take", (1, 0)), ("put", (2, None))]:
            do(store, deed)
        new = deeds.own_indexes(store.table_copy())
        self.assertNotEqual(told(store), told_by(new))
        self.assertIsNone(store.refresh("each"))
        self.assertEqual(told(store)["each"], told_by(new)["each"])
        self.assertNotEqual(told(store)["pages"], told_by(new)["pages"])
        for name in NAMES:
            store.refresh(name)
        self.assertEqual(told(store), told_by(new))
        self.assertEqual(rows_of(store.table_copy()), [((0, 0), (2, None)), ((0, 1), (-4, 12)), ((1, 1), (9, 1)),
                                                       ((2, 0), (5, 5)), ((2, 1), (9, 1))])

    def test_hints_are_true_of_the_table(self):
        store = made(ROWS)
        for deed in [("take", (0, 0)), ("change", (0, 1), (-4, 12)), ("put", (2, None)), ("take", (2, 1))]:
            do(store, deed)
            for name in NAMES:
                for predicate in ASKED:
                    self.assertEqual(store.hint(name, predicate).wrong_at(store.table_copy()), [])

    def test_no_name_first(self):
        store = made()
        for name in ("ow", "owns", "x", "new"):
            given = "".join(name)
            refused_with(self, NoName, "name", given, store.refresh, given)
            for predicate in (("both",), "bad", BOTH_WIDE):
                refused_with(self, NoName, "name", given, store.hint, given, predicate)
                for address in ((0, 0), "bad"):
                    refused_with(self, NoName, "name", given, store.pair, given, address, predicate)

    def test_what_the_index_raises(self):
        store = made()
        for name in NAMES:
            for value in NO_ADDRESSES:
                refused_with(self, NoPlace, "place", value, store.pair, name, value, "bad")
            for bad in (None, "bad", ["<", 0, 5], ("<", 2, 5)):
                refused_with(self, BadPredicate, "predicate", bad, store.hint, name, bad)
                refused_with(self, BadPredicate, "predicate", bad, store.pair, name, (0, 0), bad)
            self.assertEqual(refused(self, TooWide, store.hint, name, BOTH_WIDE).boxes, 16 * 18)
            self.assertEqual(refused(self, TooWide, store.pair, name, (0, 0), BOTH_WIDE).boxes, 16 * 18)

    def test_each_column_count(self):
        for columns in (1, 2, 3):
            store = Store(Shape(1, 2, columns=columns))
            store.index_rows("own", ("missing", columns - 1))
            store.index_column("last", columns - 1)
            store.index_bounds("each")
            self.assertEqual(store.put((None,) * columns), (0, 0))
            for name in ("own", "last", "each"):
                self.assertEqual(store.hint(name, ("missing", columns - 1)).bitmap.mark((0, 0)), 2)
            place = columns
            refused_with(self, NoPlace, "place", place, store.index_column, "new", place)

    def test_the_greatest_shape(self):
        store = Store(Shape(16, 8, columns=1))
        store.index_column("all", 0)
        self.assertEqual(store.apply([("put", (value,)) for value in range(128)])[-1], (15, 7))
        refused(self, TableFull, store.put, (1,))
        marks = [mark for page in store.hint("all", ("<", 0, 50)).bitmap for mark in page]
        self.assertEqual(marks, [2] * 50 + [0] * 78)
