"""What the tests of the three kinds of indexes have in common."""

import itertools

from tests.samples import ODD_VALUES, refused, refused_with
from wholepages.errors import BadPredicate, NoPlace, TooWide
from wholepages.hints import Hint
from wholepages.predicates import holds
from wholepages.shapes import Shape
from wholepages.tables import Table

SHAPE = Shape(5, 2, chunk=2)
ROWS = [(3, 10), (7, None), (None, 4), None, (5, 5), (9, 1), None, None, (None, None), (3, 4)]
PREDICATES = [("<", 0, 5), (">=", 1, 5), ("missing", 0), ("missing", 1), ("both",), ("either",),
              ("both", (">", 0, 2), ("<", 0, 4)), ("either", ("=", 0, 7), ("!=", 1, 4)), ("untrue", ("<", 0, 8)),
              ("negation", ("<", 1, 3)), ("both", ("<=", 0, 9), ("untrue", ("=", 0, 5)), ("missing", 1))]
NO_ADDRESSES = ODD_VALUES + [(5, 0), (0, 2), (-1, 0), (0, -1), 0]
NO_PREDICATES = [None, 5, "missing", ["<", 0, 5], ("<", 2, 5), ("missing", True), ("both", *[("both",)] * 16)]
# Each integer near the numbers of the predicates and the values of the rows, and some far from them.
GRID = list(itertools.product([None, -10 ** 18, -50] + list(range(-1, 13)) + [50, 10 ** 18], repeat=2))
# The most boxes that two predicates may have, and more.
WIDE = [("both", *[("=", column, 2 * number) for number in range(8)]) for column in range(2)]
BOTH_WIDE = ("both", *WIDE[0][1:8], *WIDE[1][1:9])


def table():
    return Table.of(SHAPE, ROWS)


def following(index):
    """Tell the index of a table's rows, and of some deeds; return the table as it is then."""
    made = table()
    for address, row in made.walk():
        index.entered(address, row)
    for address, new in [((0, 0), None), ((1, 1), (8, 8)), ((4, 0), (None, 6)), ((2, 1), None), ((0, 0), [11, None]),
                         ((4, 1), (1, 1)), ((1, 1), None), ((3, 1), (2, None))]:
        if address in made:
            index.left(address, made.take(address))
        if new is not None:
            index.entered(address, new)
            made.put_at(address, new)
    return made


def check_hints(test, index, made, is_in_set, listed):
    """Compare each hint and pair with the rows that the index knows, and with its listed rows."""
    for predicate in PREDICATES:
        hint = index.hint(predicate)
        test.assertIs(hint.__class__, Hint)
        test.assertEqual([hint.predicate, hint.wrong_at(made)], [predicate, []])
        for address in SHAPE.addresses():
            truths = {holds(predicate, row) for row in GRID if is_in_set(address, row)}
            mark = {(): 0, (False,): 0, (True,): 2}.get(tuple(truths), 1)
            with test.subTest(predicate=predicate, address=address):
                test.assertEqual(hint.bitmap.mark(address), mark)
                rows = listed(address, predicate)
                expected = None
                if mark == 1:
                    expected = ([row for row in rows if holds(predicate, row)][0],
                                [row for row in rows if not holds(predicate, row)][0])
                    test.assertTrue(is_in_set(address, expected[0]) and is_in_set(address, expected[1]))
                test.assertEqual(index.pair(address, predicate), expected)


def check_held(test, made):
    """Check held of an index, made by the call given, which is told of some rows; refresh and left."""
    index = made(SHAPE)
    test.assertIs(index.shape, SHAPE)
    test.assertEqual(index.held, 0)
    full = table()
    held = []
    for address, row in full.walk():
        index.entered(address, row)
        held.append(index.held)
    test.assertEqual(held, [1, 2, 3, 4, 5, 6, 7])
    index.left((0, 1), (7, None))
    test.assertEqual(index.held, 6)
    index.refresh(full)
    test.assertEqual(index.held, 7)
    index.refresh(Table(SHAPE))
    test.assertEqual(index.held, 0)
    test.assertEqual(list(index.hint(("either",)).bitmap), [(0, 0)] * 5)


def check_refresh(test, made, state):
    """Check that refreshing makes an index, of any past, know what a new one knows that entered the rows."""
    new = made(SHAPE)
    for address, row in table().walk():
        new.entered(address, row)
    old = made(SHAPE)
    following(old)
    for _ in range(2):
        test.assertIsNone(old.refresh(table()))
        test.assertEqual([old.held, state(old)], [7, state(new)])
        for predicate in PREDICATES:
            test.assertEqual(list(old.hint(predicate).bitmap), list(new.hint(predicate).bitmap))
    later = table()
    old.left((0, 0), later.take((0, 0)))
    later.take((2, 1))
    old.refresh(later)
    test.assertEqual(old.held, 5)
    test.assertNotIn((0, 0), later)
    test.assertEqual(old.hint(("<", 0, 5)).wrong_at(later), [])


def check_refusals(test, index):
    """Check the errors of hint and pair that all kinds have, in their order."""
    for value in NO_ADDRESSES:
        for predicate in (("both",), "worse", BOTH_WIDE):
            refused_with(test, NoPlace, "place", value, index.pair, value, predicate)
    for bad in NO_PREDICATES:
        refused_with(test, BadPredicate, "predicate", bad, index.hint, bad)
        for address in SHAPE.addresses():
            refused_with(test, BadPredicate, "predicate", bad, index.pair, address, bad)
    for call in [lambda: index.hint(BOTH_WIDE)] + [
            lambda address=address: index.pair(address, BOTH_WIDE) for address in SHAPE.addresses()]:
        raised = refused(test, TooWide, call)
        test.assertEqual([raised.boxes, list(vars(raised))], [16 * 18, ["boxes"]])


def check_told_lists(test, made, state):
    """Check that a row may be a list, which stays and may be changed."""
    tuples, lists = made(SHAPE), made(SHAPE)
    rows = {address: list(row) for address, row in table().walk()}
    for address, row in table().walk():
        test.assertIsNone(tuples.entered(address, row))
        lists.entered(address, rows[address])
    test.assertEqual(rows, {address: list(row) for address, row in table().walk()})
    lists.left((1, 0), rows[1, 0])
    tuples.left((1, 0), (None, 4))
    for row in rows.values():
        row[0] = row[1] = 1000
    test.assertEqual([lists.held, state(lists)], [tuples.held, state(tuples)])
    for predicate in PREDICATES:
        test.assertEqual(list(lists.hint(predicate).bitmap), list(tuples.hint(predicate).bitmap))
