import copy
import unittest

from tests import deeds
from tests.deeds import NO_ADDRESSES, NO_DEEDS, NO_ROWS, ROWS, SHAPE, do, outcome, rows_of
from tests.fitting import drawing, pages_of
from tests.growing import NO_TREES
from tests.samples import agrees_with, refused, refused_with
from wholepages.desks import Desk
from wholepages.errors import (BadDeed, BadPredicate, BadRow, BadShape, BadTree, EmptySlot, NameTaken, NoName, NoPlace,
                               NoRoom, Refused, SlotTaken, TableFull, TooMany, TooWide)
from wholepages.hints import Hint
from wholepages.predicates import holds
from wholepages.scans import Scan, scan
from wholepages.shapes import Shape
from wholepages.shelves import Shelf
from wholepages.staircases import Staircase
from wholepages.stores import Store
from wholepages.tables import Table
from wholepages.trees import tree_hint
from wholepages.worlds import boxes

INDEXES = ["own", "first", "second", "each", "pages"]
QUERIES = [("<", 0, 5), ("<", 0, 9), ("both", (">=", 0, 5), ("<", 0, 9)), ("missing", 1), ("both",), ("either",),
           ("either", ("missing", 1), ("<", 0, 4)), ("untrue", ("<", 1, 5))]
PLANS = [None, [], [0], [1], [0, 1], [("and", 0, 1)], [("or", 0, 1), ("less", 0, 1)], [("less", 1, 0), 0, 0, 1]]
NO_PREDICATES = [None, 5, ["<", 0, 5], ("<", 2, 5), ("missing", True), ("both", *[("both",)] * 16)]
WIDE = [("both", *[("=", column, 2 * number) for number in range(8)]) for column in range(2)]
BOTH_WIDE = ("both", *WIDE[0][1:8], *WIDE[1][1:9])
LONG = ("both", *[("<", 0, 5)] * 13)
BIG = Shape(8, 2, chunk=4)
BIG_ROWS = [(3, None), (8, 2), (4, 7), (6, 1), (1, 3), (2, 8), (10, None), (None, 9), (7, 4), (12, 5), (4, 2), (9, 6),
            (None, None), (6, 5), (8, 4), (5, 1)]


def made(rows=ROWS[:4], room=64, shape=SHAPE):
    """A desk with these rows and with indexes of each kind, but with no kept hint."""
    desk = Desk(shape, room=room)
    deeds.make_indexes(desk)
    for row in rows:
        desk.put(row)
    return desk


def keeping(rows=ROWS[:4], room=64):
    """A desk that keeps the hints low, high, gone and late."""
    desk = made(rows, room)
    desk.keep("low", "first", ("<", 0, 5))
    desk.keep("high", "first", ("<", 0, 9))
    desk.keep("gone", "second", ("missing", 1))
    desk.keep("late", "own", ("<", 0, 6))
    return desk


def big(room=64):
    """A desk whose kept hints low, high, gone and late have many exact pages."""
    desk = made(BIG_ROWS, room, BIG)
    desk.keep("low", "first", ("<", 0, 5))
    desk.keep("high", "first", ("<", 0, 9))
    desk.keep("gone", "second", ("missing", 1))
    desk.keep("late", "second", ("<", 1, 5))
    return desk


def told(desk):
    return deeds.told_by_all(desk.shape, INDEXES, desk.ask, desk.pair)


def shelf_state(desk):
    hints = [desk.hint(name) for name in desk.names()]
    return (desk.names(), desk.room, desk.size, [(hint.predicate, pages_of(hint)) for hint in hints])


def state(desk):
    return (rows_of(desk.table_copy()), shelf_state(desk), told(desk))


def result_of(found):
    return (found.__class__, found.answers, found.tested, found.pairs)


def marks_in(desk, name):
    return pages_of(desk.hint(name))


def hints_of(desk, names):
    return [desk.hint(name) for name in names]


class Checks(unittest.TestCase):
    def check_invariants(self, desk):
        """Each kept hint is true of the table, and the size is that of the hints and at most the room."""
        table = desk.table_copy()
        hints = hints_of(desk, desk.names())
        self.assertEqual([hint.wrong_at(table) for hint in hints], [[]] * len(hints))
        self.assertEqual(desk.size, sum([hint.size for hint in hints]))
        self.assertLessEqual(desk.size, desk.room)

    def check_run(self, desk, query, names, plan):
        """Compare a run with [14], by brute force over the rows of the table and the boxes."""
        found = desk.run(query, *names) if plan is None else desk.run(query, *names, plan=plan)
        table = desk.table_copy()
        hints = hints_of(desk, names)
        joined = hints if plan is None else [tree_hint(tree, hints) for tree in plan]
        self.assertIs(found.__class__, Scan)
        self.assertEqual(found.answers, [address for address, row in table.walk() if holds(query, row)])
        tested, pairs = [], []
        rows = boxes([hint.predicate for hint in joined] + [query], columns=desk.shape.columns)
        for address, _ in table.walk():
            agreeing = [row for row in rows if all([
                agrees_with(holds(hint.predicate, row), hint.bitmap.mark(address)) for hint in joined])]
            having = [row for row in agreeing if holds(query, row)]
            lacking = [row for row in agreeing if not holds(query, row)]
            if having and lacking:
                tested.append(address)
                pairs.append((having[0], lacking[0]))
        self.assertEqual([found.tested, found.pairs], [tested, pairs])


class Deeds(Checks):
    def test_the_example(self):
        desk = Desk(Shape(2, 2, columns=1))
        first = desk.apply([("put", (3,)), ("put", (7,)), ("put", (5,))])
        desk.index_rows("small", ("<", 0, 6))
        desk.keep("low", "small", ("<", 0, 6))
        second = desk.apply([("put", (9,)), ("take", (0, 0)), ("change", (0, 1), (4,))])
        found = desk.run(("<", 0, 6), "low")
        self.assertEqual([first, second, list(desk.hint("low").bitmap), found.answers, found.tested],
                         [[(0, 0), (0, 1), (1, 0)], [(1, 1), (3,), (7,)], [(2, 1), (2, 1)], [(0, 1), (1, 0)],
                          [(0, 1), (1, 1)]])

    def test_drawn_deeds_are_as_for_a_store(self):
        draw = drawing(1)
        for rows in ([], ROWS[:3], ROWS):
            desk, store = made(rows), Store(SHAPE)
            deeds.make_indexes(store)
            for row in rows:
                store.put(row)
            for _ in range(40):
                if draw.random() < 0.3:
                    batch = [deeds.drawn_deed(draw, SHAPE) for _ in range(draw.randrange(4))]
                    self.assertEqual(outcome(desk.apply, batch), outcome(store.apply, batch))
                else:
                    deed = deeds.drawn_deed(draw, SHAPE)
                    self.assertEqual(outcome(do, desk, deed), outcome(do, store, deed))
                self.assertEqual(rows_of(desk.table_copy()), rows_of(store.table_copy()))
            for name in ("each", "first"):
                self.assertEqual([desk.refresh(name), store.refresh(name)], [None, None])
            self.assertEqual(told(desk), deeds.told_by_all(SHAPE, INDEXES, store.hint, store.pair))

    def test_refusals_in_their_order(self):
        desk, full = keeping(), keeping(ROWS)
        before = (state(desk), state(full))
        for bad in NO_ROWS:
            for one in (desk, full):
                refused_with(self, BadRow, "row", bad, one.put, bad)
            refused_with(self, BadRow, "row", bad, desk.put_at, (0, 0), bad)
            refused_with(self, BadRow, "row", bad, desk.change, (2, 0), bad)
        for value in NO_ADDRESSES:
            refused_with(self, NoPlace, "place", value, desk.put_at, value, "bad")
            refused_with(self, NoPlace, "place", value, desk.take, value)
            refused_with(self, NoPlace, "place", value, desk.change, value, "bad")
        address = (0, 0)
        refused_with(self, SlotTaken, "address", address, desk.put_at, address, (1, 1))
        address = (2, 1)
        refused_with(self, EmptySlot, "address", address, desk.take, address)
        refused_with(self, EmptySlot, "address", address, desk.change, address, (1, 1))
        refused(self, TableFull, full.put, (1, 1))
        for bad in NO_DEEDS:
            raised = refused(self, Refused, desk.apply, [("put", (1, 1)), ("change", (0, 0), (9, 9)), bad])
            self.assertEqual([raised.number, raised.__cause__.__class__], [2, BadDeed])
            self.assertIs(raised.__cause__.deed, bad)
        raised = refused(self, Refused, desk.apply, [("put", (1, 1)), ("take", (2, 1)), ("take", (2, 0))])
        self.assertEqual([raised.number, raised.__cause__.address], [1, (2, 1)])
        self.assertEqual((state(desk), state(full)), before)

    def test_no_argument_is_changed(self):
        desk = keeping()
        batch = [("put", [4, 4]), ("change", (0, 1), [8, None]), ("take", (0, 0))]
        given = copy.deepcopy(batch)
        results = desk.apply(batch)
        self.assertEqual(batch, given)
        before = state(desk)
        results.clear()
        batch[0][1].clear()
        batch.clear()
        self.assertEqual(state(desk), before)

    def test_table_copies(self):
        desk = keeping()
        copied = desk.table_copy()
        self.assertEqual([copied.__class__, rows_of(copied)], [Table, list(zip(SHAPE.addresses(), ROWS))[:4]])
        before = state(desk)
        copied.take((0, 0))
        copied.put((1, 1))
        self.assertEqual(state(desk), before)
        rows = rows_of(copied)
        desk.take((1, 1))
        self.assertEqual(rows_of(copied), rows)


class Touching(Checks):
    def check_touched(self, desk, call, addresses):
        before = {name: desk.hint(name) for name in desk.names()}
        result = call()
        for name, hint in before.items():
            for address in SHAPE.addresses():
                mark = 1 if address in addresses else hint.bitmap.mark(address)
                self.assertEqual(desk.hint(name).bitmap.mark(address), mark, (name, address))
        self.check_invariants(desk)
        return result

    def test_put_put_at_and_change(self):
        desk = keeping()
        self.assertEqual(self.check_touched(desk, lambda: desk.put((1, 1)), [(2, 0)]), (2, 0))
        self.assertEqual(self.check_touched(desk, lambda: desk.put_at((2, 1), (9, 9)), [(2, 1)]), (2, 1))
        self.assertEqual(self.check_touched(desk, lambda: desk.change((0, 0), [3, 10]), [(0, 0)]), (3, 10))

    def test_take(self):
        desk = keeping(ROWS)
        for address, row in zip(SHAPE.addresses(), ROWS):
            self.assertEqual(self.check_touched(desk, lambda: desk.take(address), []), row)
        self.check_touched(desk, lambda: desk.put((1, 1)), [(0, 0)])

    def test_batches(self):
        for batch, addresses in [
                ([], []), ([("take", (0, 0)), ("take", (1, 1))], []), ([("put", (1, 1))], [(2, 0)]),
                ([("put_at", (2, 1), (1, 1)), ("take", (2, 1))], [(2, 1)]),
                ([("take", (0, 1)), ("put", (9, 9)), ("put", (9, 9))], [(0, 1), (2, 0)]),
                ([("change", (1, 0), (1, 1)), ("take", (0, 0)), ("put_at", (2, 1), (5, 5)), ("put", (0, 0)),
                  ("take", (1, 1))], [(1, 0), (2, 1), (0, 0)])]:
            desk = keeping()
            self.check_touched(desk, lambda: desk.apply(batch), addresses)

    def test_a_batch_is_touched_together_and_fitted_once(self):
        def full_desk():
            desk = Desk(Shape(5, 2, chunk=2, columns=1), room=12)
            desk.index_column("first", 0)
            desk.apply([("put", (value,)) for value in (1, 9, 1, 9, 1, 9, 1, 8, 2, 9)])
            desk.keep("a", "first", ("<", 0, 5))
            desk.keep("b", "first", ("<", 0, 5))
            desk.keep("c", "first", ("either", ("=", 0, 2), ("=", 0, 8)))
            desk.change((3, 1), (8,))
            return desk

        together, one_by_one = full_desk(), full_desk()
        self.assertEqual([together.size, marks_in(together, "c")], [12, [(0, 0)] * 3 + [(0, 1), (2, 0)]])
        batch = [("change", (3, 0), (6,)), ("change", (2, 0), (6,)), ("take", (2, 1)), ("put", (6,))]
        self.assertEqual(together.apply(batch), [(1,), (1,), (9,), (2, 1)])
        # After the first two touches the size would be above the room, after all three it is not.
        self.assertEqual([marks_in(together, name) for name in "abc"],
                         [[(2, 0), (2, 0), (1, 1), (1, 1), (2, 0)]] * 2 + [[(0, 0), (0, 0), (1, 1), (1, 1), (2, 0)]])
        for deed in batch:
            do(one_by_one, deed)
        self.assertEqual(marks_in(one_by_one, "a"), [(1, 1), (1, 1), (1, 1), (1, 1), (2, 0)])


class Rooms(Checks):
    def test_made(self):
        for shape in (SHAPE, Shape(16, 1, chunk=1), Shape(1, 1, columns=3)):
            desk = Desk(shape)
            self.assertIs(desk.shape, shape)
            self.assertEqual([desk.room, desk.size, desk.names(), rows_of(desk.table_copy())], [64, 0, [], []])
            least = 4 * shape.chunks
            self.assertEqual([Desk(shape, room=room).room for room in (least, least + 1, 100)], [least, least + 1, 100])
            for room in (least - 1, 0, -1):
                raised = refused(self, NoRoom, Desk, shape, room=room)
                self.assertEqual([raised.offered, list(vars(raised))], [room, ["offered"]])
        with self.assertRaises(TypeError):
            Desk(SHAPE, 64)

    def test_the_room_holds_for_every_call(self):
        desk = big(12)
        shelf = Shelf(BIG, 12)
        other = big()
        for name in other.names():
            shelf.keep(name, other.hint(name))
        self.assertEqual(other.size, 20)
        self.assertEqual(shelf_state(desk), shelf_state(shelf))
        self.check_invariants(desk)
        for call in (lambda one: one.forget("high", 0, 1, 5), lambda one: one.drop("gone"),
                     lambda one: one.keep("new", other.hint("gone")) if one is shelf
                     else one.keep("new", "second", ("missing", 1))):
            call(desk)
            call(shelf)
            self.assertEqual(shelf_state(desk), shelf_state(shelf))
            self.check_invariants(desk)
        desk.change((0, 0), (9, 9))
        shelf.touched((0, 0))
        self.assertEqual(shelf_state(desk), shelf_state(shelf))

    def test_resize_without_a_query(self):
        desk, shelf = big(), Shelf(BIG, 64)
        for name in desk.names():
            shelf.keep(name, desk.hint(name))
        for room in (40, 20, 18, 14, 9, 8, 30):
            self.assertIsNone(desk.resize(room))
            shelf.resize(room)
            self.assertEqual(shelf_state(desk), shelf_state(shelf))
            self.check_invariants(desk)

    def test_no_room_first(self):
        desk = keeping()
        before = state(desk)
        for room in (7, 0, -1, -10 ** 18):
            for more in ({}, {"query": ("<", 0, 5)}, {"query": "bad"}, {"query": BOTH_WIDE}):
                raised = refused(self, NoRoom, desk.resize, room, **more)
                self.assertEqual([raised.offered, list(vars(raised))], [room, ["offered"]])
        self.assertEqual(state(desk), before)

    def test_a_query_that_is_refused(self):
        wide = made()
        wide.index_rows("wide", WIDE[0])
        wide.keep("wide", "wide", WIDE[0])
        for desk in (Desk(SHAPE), made(), keeping(ROWS), wide):
            kept = shelf_state(desk)
            for room in (8, 64, 1000):
                for bad in NO_PREDICATES[1:]:
                    refused_with(self, BadPredicate, "predicate", bad, desk.resize, room, query=bad)
                refused(self, TooWide, desk.resize, room, query=BOTH_WIDE)
            self.assertEqual(shelf_state(desk), kept)
        for room in (8, 1000):
            self.assertEqual(refused(self, TooWide, wide.resize, room, query=WIDE[1]).boxes, 18 * 18)

    def test_a_query_that_is_left_out(self):
        # None stands for no query, so it is no value that is refused as one.
        desk, other = keeping(ROWS), keeping(ROWS)
        desk.resize(9, query=None)
        other.resize(9)
        self.assertEqual(shelf_state(desk), shelf_state(other))

    def check_resized(self, desk, room, query):
        """Resize with the query, and return how many tests a run with all kept hints makes then."""
        names = desk.names()
        steps = desk.staircase(query, *names)
        hints = hints_of(desk, names)
        for number, page in steps.choice(room):
            hints[number] = hints[number].forgotten(page)
        self.assertIsNone(desk.resize(room, query=query))
        self.assertEqual([pages_of(hint) for hint in hints], [marks_in(desk, name) for name in names])
        self.assertEqual([desk.room, desk.names()], [room, names])
        tests = len(desk.run(query, *names).tested)
        self.assertEqual(tests, steps.tests(room))
        self.check_invariants(desk)
        return tests

    def test_resize_with_a_query(self):
        better = 0
        for query in QUERIES:
            for room in (8, 9, 10, 11, 12, 13, 15, 17, 18, 19, 20, 21, 64):
                desk, plain = big(), big()
                tests = self.check_resized(desk, room, query)
                plain.resize(room)
                better += tests < len(plain.run(query, *plain.names()).tested)
        self.assertGreater(better, 20)

    def test_resize_with_a_query_after_other_calls(self):
        for query in QUERIES[:3]:
            desk = big(20)
            desk.apply([("take", (1, 1)), ("change", (2, 0), (5, 5)), ("put", (3, 3)), ("take", (7, 1))])
            desk.forget("late", 2, 3)
            desk.drop("gone")
            for room in (30, 18, 16, 17, 12, 9, 8, 20):
                self.check_resized(desk, room, query)

    def test_no_kept_hint(self):
        desk = made()
        desk.resize(8, query=("<", 0, 5))
        self.assertEqual([desk.room, desk.size], [8, 0])


class KeptHints(Checks):
    def test_keep_hint_drop_and_names(self):
        desk = made(ROWS)
        for name, index, predicate in [("low", "own", ("<", 0, 5)), ("b", "first", ("<", 0, 5)),
                                       ("own", "each", ("missing", 1)), ("c", "pages", (">", 1, 4))]:
            asked = desk.ask(index, predicate)
            self.assertIsNone(desk.keep(name, index, predicate))
            self.assertEqual([desk.hint(name).predicate, marks_in(desk, name)], [predicate, pages_of(asked)])
        self.assertEqual(desk.names(), ["low", "b", "own", "c"])
        self.assertIsNone(desk.drop("b"))
        desk.keep("b", "second", ("<", 1, 5))
        self.assertEqual(desk.names(), ["low", "own", "c", "b"])
        desk.names().clear()
        self.assertEqual(desk.names(), ["low", "own", "c", "b"])
        for name in ("x", "first", "lo"):
            given = "".join(name)
            refused_with(self, NoName, "name", given, desk.hint, given)
            refused_with(self, NoName, "name", given, desk.drop, given)
            refused_with(self, NoName, "name", given, desk.forget, given, 9)

    def test_names_of_indexes_and_of_kept_hints_are_apart(self):
        desk = made(ROWS)
        desk.keep("own", "first", ("<", 0, 5))
        self.assertNotEqual(marks_in(desk, "own"), pages_of(desk.ask("own", ("<", 0, 5))))
        refused(self, NoName, desk.ask, "low", ("both",))
        refused(self, NoName, desk.hint, "first")
        desk.keep("new", "own", ("<", 0, 5))
        desk.index_rows("new", ("both",))
        desk.index_bounds("low")
        desk.drop("own")
        self.assertEqual(desk.names(), ["new"])
        desk.ask("own", ("<", 0, 5))
        refused(self, NameTaken, desk.index_column, "own", 0)

    def test_forget(self):
        desk = keeping(ROWS)
        before = shelf_state(desk)
        self.assertIsNone(desk.forget("high"))
        for bad in NO_ADDRESSES + [-1, 3, True, "0"]:
            if bad != 0 or isinstance(bad, bool):
                refused_with(self, NoPlace, "place", bad, desk.forget, "high", 0, bad, "worse")
        self.assertEqual(shelf_state(desk), before)
        desk.forget("high", 2, 0)
        self.assertEqual([marks_in(desk, "high")[page] for page in (0, 2)], [(1, 1)] * 2)
        self.assertEqual([item for item in shelf_state(desk)[3] if item[0] != ("<", 0, 9)],
                         [item for item in before[3] if item[0] != ("<", 0, 9)])

    def test_asking_indexes(self):
        desk = made(ROWS)
        for name in ("low", "x"):
            given = "".join(name)
            refused_with(self, NoName, "name", given, desk.ask, given, "bad")
            refused_with(self, NoName, "name", given, desk.pair, given, "bad", "bad")
            refused_with(self, NoName, "name", given, desk.refresh, given)
        for name in INDEXES:
            for bad in NO_PREDICATES:
                refused_with(self, BadPredicate, "predicate", bad, desk.ask, name, bad)
                refused_with(self, BadPredicate, "predicate", bad, desk.pair, name, (0, 0), bad)
            refused(self, TooWide, desk.ask, name, BOTH_WIDE)
            for value in NO_ADDRESSES:
                refused_with(self, NoPlace, "place", value, desk.pair, name, value, "bad")
            refused_with(self, NameTaken, "name", name, desk.index_rows, name, "bad")
            refused_with(self, NameTaken, "name", name, desk.index_column, name, 9)
            refused_with(self, NameTaken, "name", name, desk.index_bounds, name, span=0)
        refused_with(self, BadPredicate, "predicate", "bad", desk.index_rows, "new", "bad")
        column = 2
        refused_with(self, NoPlace, "place", column, desk.index_column, "new", column)
        refused(self, BadShape, desk.index_bounds, "new", span=17)
        self.assertIsNone(desk.index_bounds("new", span=16))
        self.assertEqual(desk.pair("new", (0, 0), ("<", 0, 4)), ((3, None), (None, None)))
        self.assertEqual(desk.pair("pages", (2, 1), ("<", 0, 7)), ((5, 1), (7, 1)))

    def test_the_errors_of_keep_in_their_order(self):
        desk = keeping()
        desk.drop("late")
        before = state(desk)
        for index, predicate in (("own", ("both",)), ("nothing", "bad"), ("own", "bad")):
            refused_with(self, NameTaken, "name", "low", desk.keep, "low", index, predicate)
        given = "".join("nothing")
        refused_with(self, NoName, "name", given, desk.keep, "new", given, "bad")
        for bad in NO_PREDICATES:
            refused_with(self, BadPredicate, "predicate", bad, desk.keep, "new", "own", bad)
        refused(self, TooWide, desk.keep, "new", "own", BOTH_WIDE)
        self.assertEqual(state(desk), before)
        desk.keep("new", "own", ("both",))
        before = state(desk)
        refused_with(self, NameTaken, "name", "new", desk.keep, "new", "nothing", "bad")
        for index, predicate in (("own", ("both",)), ("nothing", "bad"), ("own", "bad"), ("own", BOTH_WIDE)):
            raised = refused(self, TooMany, desk.keep, "fifth", index, predicate)
            self.assertEqual([raised.many, list(vars(raised))], [5, ["many"]])
        self.assertEqual(state(desk), before)


class Runs(Checks):
    def test_runs(self):
        for rows in (ROWS, ROWS[:3], []):
            desk = keeping(rows)
            desk.forget("low", 1)
            desk.change((0, 1), (4, None)) if rows else None
            for query in QUERIES:
                for names in ([], ["low"], ["high", "low"], ["late", "late"], ["low", "gone", "low", "high"]):
                    for plan in PLANS:
                        numbers = {int(text) for text in str(plan) if text.isdigit()}
                        if max(numbers, default=-1) < len(names):
                            self.check_run(desk, query, names, plan)

    def test_apart_is_the_plan_that_is_left_out(self):
        desk = keeping(ROWS)
        names = ["late", "gone", "low"]
        for query in QUERIES:
            expected = result_of(scan(desk.table_copy(), hints_of(desk, names), query))
            for found in (desk.run(query, *names), desk.run(query, *names, plan=None),
                          desk.run(query, *names, plan=[0, 1, 2])):
                self.assertEqual(result_of(found), expected)
        # The base hints are numbered in the order of the names.
        self.assertEqual(result_of(desk.run(QUERIES[0], "low", "gone", plan=[1])),
                         result_of(desk.run(QUERIES[0], "gone")))

    def test_the_errors_in_their_order(self):
        desk = keeping()
        before = state(desk)
        given = "".join("nothing")
        for names in ([given], ["low", given, "worse"], ["low"] * 4 + [given], [given] * 5):
            for plan in (None, [], [0] * 5):
                refused_with(self, NoName, "name", given, desk.run, "bad", *names, plan=plan)
        for many in (5, 6, 9):
            for plan in (None, [], [None] * 7, ["bad"]):
                raised = refused(self, TooMany, desk.run, "bad", *["low"] * many, plan=plan)
                self.assertEqual([raised.many, list(vars(raised))], [many, ["many"]])
        for many in (5, 7):
            self.assertEqual(refused(self, TooMany, desk.run, "bad", "low", plan=[9] * many).many, many)
        for bad in NO_TREES:
            refused_with(self, BadTree, "tree", bad, desk.run, "bad", "low", "high", plan=[0, bad, None])
        number = 0
        refused_with(self, BadTree, "tree", number, desk.run, "bad", plan=[number])
        for bad in NO_PREDICATES:
            for plan in (None, [], [("and", 0, 0)]):
                refused_with(self, BadPredicate, "predicate", bad, desk.run, bad, "low", plan=plan)
        for names in ([], ["low"], ["low"] * 4):
            self.assertEqual(refused(self, TooWide, desk.run, BOTH_WIDE, *names).boxes, 16 * 18)
        self.assertEqual(state(desk), before)

    def test_what_joining_raises(self):
        desk = made()
        desk.index_rows("long", LONG)
        desk.keep("long", "long", LONG)
        desk.keep("low", "own", ("<", 0, 6))
        joined = ("both", LONG, ("untrue", ("<", 0, 6)))
        for plan in ([("less", 0, 1)], [0, 1, ("less", 0, 1), ("and", 0, 0)], [("or", ("less", 0, 1), ("and", 0, 0))]):
            for query in (("both",), "bad", BOTH_WIDE):
                raised = refused(self, BadPredicate, desk.run, query, "long", "low", plan=plan)
                self.assertEqual(raised.predicate, joined)
        self.assertEqual(desk.run(("<", 0, 5), "long", "low", plan=[("and", 0, 1)]).answers, [(0, 0)])

    def test_no_argument_is_changed(self):
        desk = keeping(ROWS)
        plan = [("and", 0, 1), 0]
        found = desk.run(("<", 0, 5), "low", "high", plan=plan)
        self.assertEqual(plan, [("and", 0, 1), 0])
        expected = result_of(desk.run(("<", 0, 5), "low", "high", plan=plan))
        found.answers.clear()
        found.tested.clear()
        found.pairs.clear()
        self.assertEqual(result_of(desk.run(("<", 0, 5), "low", "high", plan=plan)), expected)
        desk.take((0, 0))
        self.assertEqual(expected[1], [(0, 0)])


class KeptAnswers(Checks):
    def test_keep_answer(self):
        for query in QUERIES:
            for names in ([], ["low"], ["high", "low", "low"]):
                desk = keeping(ROWS)
                desk.drop("late")
                expected = result_of(desk.run(query, *names))
                found = desk.keep_answer("new", query, *names)
                self.assertEqual(result_of(found), expected)
                exact = Hint.exact(query, desk.table_copy())
                self.assertEqual([desk.names()[-1], desk.hint("new").predicate, marks_in(desk, "new")],
                                 ["new", query, pages_of(exact)])
                self.assertEqual([desk.run(query, "new").tested, desk.run(query, "new").answers], [[], found.answers])

    def test_the_kept_answer_is_fitted(self):
        desk = keeping(ROWS, 8)
        desk.drop("gone")
        found = desk.keep_answer("new", ("<", 1, 5), "low")
        self.assertEqual(found.answers, [(1, 0), (1, 1), (2, 1)])
        self.check_invariants(desk)

    def test_the_errors_in_their_order(self):
        full, desk = keeping(), keeping()
        desk.drop("late")
        before = (state(full), state(desk))
        given = "".join("nothing")
        for query, names in (("bad", [given]), (("both",), ["low"] * 5), (("both",), [])):
            refused_with(self, NameTaken, "name", "low", full.keep_answer, "low", query, *names)
            refused_with(self, NameTaken, "name", "low", desk.keep_answer, "low", query, *names)
            raised = refused(self, TooMany, full.keep_answer, "new", query, *names)
            self.assertEqual([raised.many, list(vars(raised))], [5, ["many"]])
        refused_with(self, NoName, "name", given, desk.keep_answer, "new", "bad", *["low"] * 5, given)
        self.assertEqual(refused(self, TooMany, desk.keep_answer, "new", "bad", *["low"] * 6).many, 6)
        for bad in NO_PREDICATES:
            refused_with(self, BadPredicate, "predicate", bad, desk.keep_answer, "new", bad, "low")
        refused(self, TooWide, desk.keep_answer, "new", BOTH_WIDE)
        self.assertEqual((state(full), state(desk)), before)


class KeptJoins(Checks):
    def test_keep_join(self):
        for tree in (0, ("and", 0, 1), ("or", 1, 0), ("less", 1, 0), ("less", ("or", 0, 1), ("and", 1, 1))):
            for names in (["low", "high"], ["gone", "gone"], ["high", "low", "gone", "gone"]):
                desk = keeping(ROWS)
                desk.drop("late")
                expected = tree_hint(tree, hints_of(desk, names))
                self.assertIsNone(desk.keep_join("new", tree, *names))
                self.assertEqual([desk.names(), desk.hint("new").predicate, marks_in(desk, "new")],
                                 [["low", "high", "gone", "new"], expected.predicate, pages_of(expected)])
                self.check_invariants(desk)

    def test_the_errors_in_their_order(self):
        full, desk = keeping(), keeping()
        desk.drop("late")
        before = (state(full), state(desk))
        given = "".join("nothing")
        for tree, names in (("bad", [given]), (0, ["low"] * 5), (0, ["low"]), ("bad", ["low"])):
            refused_with(self, NameTaken, "name", "low", full.keep_join, "low", tree, *names)
            refused_with(self, NameTaken, "name", "low", desk.keep_join, "low", tree, *names)
            self.assertEqual(refused(self, TooMany, full.keep_join, "new", tree, *names).many, 5)
        refused_with(self, NoName, "name", given, desk.keep_join, "new", "bad", *["low"] * 5, given)
        self.assertEqual(refused(self, TooMany, desk.keep_join, "new", "bad", *["low"] * 6).many, 6)
        for bad in NO_TREES:
            tree = ("or", 0, ("and", bad, 1))
            refused_with(self, BadTree, "tree", tree, desk.keep_join, "new", tree, "low", "high")
        number = 0
        refused_with(self, BadTree, "tree", number, desk.keep_join, "new", number)
        self.assertEqual((state(full), state(desk)), before)

    def test_what_joining_raises(self):
        desk = made()
        desk.index_rows("long", LONG)
        desk.keep("long", "long", LONG)
        before = shelf_state(desk)
        raised = refused(self, BadPredicate, desk.keep_join, "new", ("or", 0, ("and", 0, 0)), "long")
        self.assertEqual(raised.predicate, ("both", LONG, LONG))
        self.assertEqual(shelf_state(desk), before)


class Staircases(Checks):
    def test_staircases(self):
        desk = keeping(ROWS)
        for query in QUERIES:
            for names in ([], ["low"], ["high", "high"], desk.names()):
                steps = desk.staircase(query, *names)
                other = Staircase(desk.table_copy(), hints_of(desk, names), query)
                self.assertIs(steps.__class__, Staircase)
                self.assertEqual(list(steps), list(other))
                for room, _ in steps:
                    self.assertEqual(steps.choice(room), other.choice(room))

    def test_later_changes(self):
        desk = keeping(ROWS)
        steps = desk.staircase(("<", 0, 5), *desk.names())
        before = [list(steps), [steps.choice(room) for room, _ in steps]]
        desk.apply([("take", (0, 0)), ("change", (0, 1), (1, 1))])
        desk.drop("low")
        desk.resize(8)
        self.assertEqual([list(steps), [steps.choice(room) for room, _ in steps]], before)

    def test_the_errors_in_their_order(self):
        desk = keeping()
        before = state(desk)
        given = "".join("nothing")
        refused_with(self, NoName, "name", given, desk.staircase, "bad", *["low"] * 5, given)
        for many in (5, 8):
            self.assertEqual(refused(self, TooMany, desk.staircase, "bad", *["low"] * many).many, many)
        for bad in NO_PREDICATES:
            for names in ([], ["low"], ["low"] * 4):
                refused_with(self, BadPredicate, "predicate", bad, desk.staircase, bad, *names)
        self.assertEqual(refused(self, TooWide, desk.staircase, BOTH_WIDE).boxes, 16 * 18)
        self.assertEqual(state(desk), before)


class Histories(Checks):
    def drawn_call(self, draw, desk):
        """Call something, which is often refused; a refusal changes nothing."""
        name, index = draw.choice(["a", "b", "c", "d", "e"]), draw.choice(INDEXES)
        names = [draw.choice(desk.names() + ["e"] * draw.randrange(2) or ["e"]) for _ in range(draw.randrange(4))]
        query = draw.choice(QUERIES)
        pages = [draw.choice([0, 1, 2, 2, 3]) for _ in range(draw.randrange(3))]
        tree = draw.choice([0, ("and", 0, 1), ("less", 1, 0), ("or", 0, ("and", 1, 1)), ("or", 0)])
        batch = [deeds.drawn_deed(draw, SHAPE) for _ in range(draw.randrange(4))]
        room = draw.choice([7, 8, 9, 10, 12, 64])
        return draw.choice([
            lambda: do(desk, deeds.drawn_deed(draw, SHAPE)), lambda: do(desk, deeds.drawn_deed(draw, SHAPE)),
            lambda: desk.apply(batch), lambda: desk.keep(name, index, query), lambda: desk.keep(name, index, query),
            lambda: desk.keep_answer(name, query, *names), lambda: desk.keep_join(name, tree, *names),
            lambda: desk.drop(name), lambda: desk.forget(name, *pages), lambda: desk.resize(room),
            lambda: desk.resize(room, query=query), lambda: desk.resize(room, query=draw.choice([query, "bad"])),
            lambda: desk.refresh(index), lambda: desk.index_rows(index, query)])

    def test_drawn_histories(self):
        draw = drawing(5)
        words = []
        for _ in range(10):
            desk = made(ROWS[:draw.randrange(7)], draw.choice([8, 10, 64]))
            for _ in range(40):
                call = self.drawn_call(draw, desk)
                before = (rows_of(desk.table_copy()), shelf_state(desk))
                known = told(desk) if draw.random() < 0.15 else None
                word, _ = outcome(call)
                words.append(word)
                if word != "returned":
                    self.assertEqual((rows_of(desk.table_copy()), shelf_state(desk)), before)
                    self.assertEqual(known, told(desk) if known else None)
                self.check_invariants(desk)
                names = [draw.choice(desk.names()) for _ in range(draw.randrange(5))] if desk.names() else []
                plan = draw.choice([None, [], [0]] if names else [None, []])
                self.check_run(desk, draw.choice(QUERIES), names, plan)
        self.assertGreater(words.count("returned"), 150)
        self.assertGreater(len(words) - words.count("returned"), 100)

    def test_the_store_does_not_feel_the_shelf(self):
        draw = drawing(6)
        desk, store = made([]), Store(SHAPE)
        deeds.make_indexes(store)
        for _ in range(60):
            deed = deeds.drawn_deed(draw, SHAPE)
            self.assertEqual(outcome(do, desk, deed), outcome(do, store, deed))
            name, query = draw.choice("abcd"), draw.choice(QUERIES)
            outcome(draw.choice([lambda: desk.keep(name, draw.choice(INDEXES), query), lambda: desk.drop(name),
                                 lambda: desk.resize(8), lambda: desk.keep_answer(name, query),
                                 lambda: desk.forget(name, 0), lambda: desk.run(query, *desk.names()[:2])]))
        self.assertEqual(rows_of(desk.table_copy()), rows_of(store.table_copy()))
        self.assertEqual(told(desk), deeds.told_by_all(SHAPE, INDEXES, store.hint, store.pair))
