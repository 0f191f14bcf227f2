import itertools
import unittest

from tests.samples import ODD_VALUES, refused, refused_with
from wholepages.errors import BadRow, EmptySlot, NoPlace, SlotTaken, TableFull
from wholepages.shapes import Shape
from wholepages.tables import Table, check_row

MOST = 10 ** 18
NO_ADDRESSES = ODD_VALUES + [(3, 0), (0, 2), (-1, 0), (0, -1), 0]
BAD_ROWS = [None, 5, "ab", b"ab", (1,), [1, 2, 3], (1, True), [False, 1], (1, MOST + 1),
            (-MOST - 1, 1), (1.0, 2), {0: 1, 1: 2}, (1, "2"), (1, (2,)), ([1], 2), [1, [2]]]
ROWS = [(3, 10), (7, None), (None, 4), None, (5, 5), (9, 1)]


def three_pages():
    return Table.of(Shape(3, 2, chunk=2), ROWS)


def all_rows(table):
    return [table.row_at(address) for address in table.shape.addresses()]


class CheckingRows(unittest.TestCase):
    def test_rows_become_tuples(self):
        for row in [(5,), (1, None), (None, None, None), (-MOST, MOST), (0,), (MOST, -MOST, 0)]:
            for given in (row, list(row)):
                kept = check_row(given, len(row))
                self.assertEqual(kept, row)
                self.assertIs(kept.__class__, tuple)

    def test_the_passed_list_stays(self):
        given = [1, None]
        kept = check_row(given, 2)
        self.assertEqual(given, [1, None])
        given[0] = 8
        self.assertEqual(kept, (1, None))

    def test_the_ends(self):
        for value in (MOST, -MOST):
            self.assertEqual(check_row([value], 1), (value,))
        for value in (MOST + 1, -MOST - 1):
            for row in ((value,), [value]):
                refused_with(self, BadRow, "row", row, check_row, row, 1)

    def test_an_item_too_many_or_too_few(self):
        for columns in (1, 2, 3):
            for many in (0, columns - 1, columns + 1):
                for row in ([1] * many, (1,) * many):
                    refused_with(self, BadRow, "row", row, check_row, row, columns)

    def test_true_and_false_are_no_values_of_any_column(self):
        for at in range(3):
            for value in (True, False):
                row = [1, 0, None]
                row[at] = value
                refused_with(self, BadRow, "row", row, check_row, row, 3)

    def test_values_that_are_no_row(self):
        for row in BAD_ROWS:
            with self.subTest(row=row):
                refused_with(self, BadRow, "row", row, check_row, row, 2)

    def test_values_of_other_kinds_in_a_row(self):
        for value in ODD_VALUES[1:]:
            row = (value,)
            with self.subTest(value=value):
                refused_with(self, BadRow, "row", row, check_row, row, 1)


class MakingTables(unittest.TestCase):
    def test_the_example(self):
        table = three_pages()
        self.assertEqual([table.row_at((1, 0)), table.row_at((1, 1)), table.used],
                         [(None, 4), None, 5])
        self.assertEqual([table.put([8, 8]), table.take((0, 0))], [(1, 1), (3, 10)])

    def test_an_empty_table(self):
        shape = Shape(3, 2)
        for table in (Table(shape), Table.of(shape, []), Table.of(shape, [None] * 6)):
            self.assertIs(table.shape, shape)
            self.assertEqual(all_rows(table), [None] * 6)
            self.assertEqual([table.used, list(table.walk())], [0, []])

    def test_addresses_behind_the_end_are_empty(self):
        table = Table.of(Shape(3, 2), [None, [1, 2], (3, None)])
        self.assertEqual(all_rows(table), [None, (1, 2), (3, None), None, None, None])
        self.assertIs(table.row_at((0, 1)).__class__, tuple)

    def test_as_many_items_as_addresses(self):
        rows = [[at, None] for at in range(6)]
        self.assertEqual(all_rows(Table.of(Shape(3, 2), rows)), [(at, None) for at in range(6)])

    def test_too_many_items(self):
        for rows in ([None] * 7, [(1, 1)] * 7, [(1, 1)] * 6 + [None], ["bad"] * 7, [None] * 300):
            refused(self, TableFull, Table.of, Shape(3, 2), rows)

    def test_the_first_bad_row(self):
        bad = [1, True]
        for rows in ([bad], [(1, 2), None, bad, "worse"], [None] * 5 + [bad]):
            refused_with(self, BadRow, "row", bad, Table.of, Shape(3, 2), rows)

    def test_lists_that_were_passed_in_may_be_changed(self):
        row = [1, 2]
        rows = [row, None]
        table = Table.of(Shape(3, 2), rows)
        self.assertEqual([rows, row], [[[1, 2], None], [1, 2]])
        row[0] = 9
        rows[1] = (4, 4)
        self.assertEqual(all_rows(table)[:2], [(1, 2), None])


class ChangingTables(unittest.TestCase):
    def test_put_takes_the_first_empty_address(self):
        table = Table(Shape(2, 2))
        self.assertEqual([table.put((at, at)) for at in range(3)], [(0, 0), (0, 1), (1, 0)])
        table.take((0, 1))
        self.assertEqual([table.put([7, None]), table.put((8, 8))], [(0, 1), (1, 1)])
        self.assertEqual(all_rows(table), [(0, 0), (7, None), (2, 2), (8, 8)])

    def test_put_at(self):
        table = Table(Shape(2, 2))
        self.assertEqual([table.put_at((1, 1), [1, 2]), table.put_at((0, 1), (3, 4))], [(1, 1), (0, 1)])
        self.assertEqual(all_rows(table), [None, (3, 4), None, (1, 2)])
        table.take((1, 1))
        self.assertEqual(table.put_at((1, 1), (5, None)), (1, 1))
        self.assertEqual(table.row_at((1, 1)), (5, None))

    def test_take(self):
        table = three_pages()
        self.assertEqual([table.take((0, 1)), table.take((2, 1))], [(7, None), (9, 1)])
        self.assertEqual(all_rows(table), [(3, 10), None, (None, 4), None, (5, 5), None])

    def test_change(self):
        table = three_pages()
        self.assertEqual([table.change((0, 1), [1, 1]), table.change((0, 1), (2, None))],
                         [(7, None), (1, 1)])
        self.assertEqual(all_rows(table), [(3, 10), (2, None), (None, 4), None, (5, 5), (9, 1)])

    def test_rows_are_kept_as_tuples_of_their_own(self):
        table = Table(Shape(1, 3))
        row = [1, 2]
        table.put(row)
        table.put_at((0, 1), row)
        table.put_at((0, 2), (0, 0))
        table.change((0, 2), row)
        self.assertEqual(row, [1, 2])
        row[1] = 9
        self.assertEqual(all_rows(table), [(1, 2)] * 3)
        self.assertEqual({kept.__class__ for kept in all_rows(table)}, {tuple})

    def test_every_order_of_a_few_deeds(self):
        deeds = [("put", None), ("put_at", (0, 1)), ("take", (0, 0)), ("take", (0, 1)), ("change", (0, 1))]
        for order in itertools.product(deeds, repeat=4):
            table = Table(Shape(1, 2, columns=1))
            rows = {}
            for number, (word, address) in enumerate(order):
                self.assertEqual(done(table, word, address, (number,)),
                                 done_plainly(rows, word, address, (number,)))
                self.assertEqual(all_rows(table), [rows.get((0, 0)), rows.get((0, 1))])
                self.assertEqual(table.used, len(rows))


def done(table, word, address, row):
    try:
        if word == "put":
            return table.put(row)
        if word == "take":
            return table.take(address)
        return getattr(table, word)(address, row)
    except (TableFull, SlotTaken, EmptySlot) as error:
        return error.__class__


def done_plainly(rows, word, address, row):
    if word == "put":
        free = [place for place in [(0, 0), (0, 1)] if place not in rows]
        if not free:
            return TableFull
        rows[free[0]] = row
        return free[0]
    if word == "put_at":
        if address in rows:
            return SlotTaken
        rows[address] = row
        return address
    if address not in rows:
        return EmptySlot
    old = rows.pop(address)
    if word == "change":
        rows[address] = row
    return old


class RefusedDeeds(unittest.TestCase):
    def setUp(self):
        self.table = three_pages()
        self.full = Table.of(Shape(1, 2), [(1, 2), (3, 4)])

    def tearDown(self):
        self.assertEqual(all_rows(self.table), ROWS)
        self.assertEqual(all_rows(self.full), [(1, 2), (3, 4)])

    def test_values_that_are_no_address(self):
        for value in NO_ADDRESSES:
            with self.subTest(value=value):
                refused_with(self, NoPlace, "place", value, self.table.put_at, value, "no row")
                refused_with(self, NoPlace, "place", value, self.table.put_at, value, (1, 1))
                refused_with(self, NoPlace, "place", value, self.table.take, value)
                refused_with(self, NoPlace, "place", value, self.table.change, value, "no row")
                refused_with(self, NoPlace, "place", value, self.table.change, value, (1, 1))
                refused_with(self, NoPlace, "place", value, self.table.row_at, value)

    def test_bad_rows(self):
        for row in BAD_ROWS:
            with self.subTest(row=row):
                refused_with(self, BadRow, "row", row, self.table.put, row)
                refused_with(self, BadRow, "row", row, self.full.put, row)
                for address in ((0, 0), (1, 1)):
                    refused_with(self, BadRow, "row", row, self.table.put_at, address, row)
                    refused_with(self, BadRow, "row", row, self.table.change, address, row)

    def test_rows_for_other_columns(self):
        for columns in (1, 2, 3):
            table = Table(Shape(1, 1, columns=columns))
            for row in [(1,) * many for many in range(5) if many != columns]:
                refused_with(self, BadRow, "row", row, table.put, row)
            self.assertEqual(table.put([None] * columns), (0, 0))

    def test_a_full_table(self):
        refused(self, TableFull, self.full.put, (1, 1))

    def test_an_occupied_address(self):
        address = (2, 1)
        refused_with(self, SlotTaken, "address", address, self.table.put_at, address, (1, 1))

    def test_an_empty_address(self):
        address = (1, 1)
        refused_with(self, EmptySlot, "address", address, self.table.take, address)
        refused_with(self, EmptySlot, "address", address, self.table.change, address, (1, 1))
        refused_with(self, EmptySlot, "address", address, Table(Shape(2, 2)).take, address)


class LookingAtTables(unittest.TestCase):
    def test_walk(self):
        table = three_pages()
        walked = [((0, 0), (3, 10)), ((0, 1), (7, None)), ((1, 0), (None, 4)), ((2, 0), (5, 5)), ((2, 1), (9, 1))]
        self.assertEqual(list(table.walk()), walked)
        self.assertEqual(next(table.walk()), walked[0])

    def test_walk_is_in_order_of_the_addresses_whatever_came_first(self):
        table = Table(Shape(2, 2))
        for address in [(1, 1), (0, 1), (1, 0), (0, 0)]:
            table.put_at(address, address)
        table.take((0, 0))
        table.change((1, 0), (9, 9))
        table.put((4, 4))
        self.assertEqual(list(table.walk()),
                         [((0, 0), (4, 4)), ((0, 1), (0, 1)), ((1, 0), (9, 9)), ((1, 1), (1, 1))])

    def test_used(self):
        table = Table(Shape(1, 2))
        used = [table.used]
        for deed, values in [(table.put, [(1, 1)]), (table.put, [(1, 1)]), (table.change, [(0, 1), (2, 2)]),
                             (table.take, [(0, 0)]), (table.put_at, [(0, 0), (3, 3)]), (table.take, [(0, 1)])]:
            deed(*values)
            used.append(table.used)
        self.assertEqual(used, [0, 1, 2, 2, 1, 2, 1])

    def test_occupied_addresses_are_in_the_table(self):
        table = three_pages()
        for address in table.shape.addresses():
            self.assertIs(address in table, address != (1, 1))
        table.take((2, 1))
        self.assertIs((2, 1) in table, False)

    def test_other_values_are_not(self):
        full = Table.of(Shape(3, 2), [(1, 1)] * 6)
        for value in NO_ADDRESSES + [(1, 1), (3, 10)]:
            with self.subTest(value=value):
                self.assertIs(value in Table(Shape(3, 2)), False)
        for value in NO_ADDRESSES:
            with self.subTest(value=value):
                self.assertIs(value in full, False)


class CopiedTables(unittest.TestCase):
    def test_a_copy_has_the_same_rows(self):
        table = three_pages()
        twin = table.copied()
        self.assertIsInstance(twin, Table)
        self.assertIsNot(twin, table)
        self.assertEqual([all_rows(twin), twin.used], [ROWS, 5])
        self.assertEqual((twin.shape.pages, twin.shape.slots, twin.shape.chunk, twin.shape.columns), (3, 2, 2, 2))

    def test_a_copy_and_its_table_are_apart(self):
        for changed, kept in ([0, 1], [1, 0]):
            table = three_pages()
            both = [table, table.copied()]
            both[changed].take((0, 0))
            both[changed].put_at((1, 1), (8, 8))
            both[changed].change((2, 0), (None, None))
            self.assertEqual(all_rows(both[kept]), ROWS)
            self.assertEqual(all_rows(both[changed]), [None, (7, None), (None, 4), (8, 8), (None, None), (9, 1)])
