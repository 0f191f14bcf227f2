"""What the tests of stores and desks have in common: calls on tables, and what indexes tell."""

from tests.samples import ODD_VALUES
from wholepages.bounds import BoundsIndex
from wholepages.columns import ColumnIndex
from wholepages.errors import PagesError
from wholepages.indexes import PartialIndex
from wholepages.shapes import Shape

SHAPE = Shape(3, 2, chunk=2)
ROWS = [(3, 10), (7, None), (None, 4), (9, 1), (5, 5), (9, 1)]
NEW_ROWS = [(1, 2), [8, 8], (None, None), (3, 10), (12, -4)]
NO_ROWS = [None, 5, (1,), (1, 2, 3), "ab", (1, True), (1, 10 ** 18 + 1), [1, "2"]]
NO_ADDRESSES = [None, 0, (3, 0), (0, 2), (-1, 0), (True, 0), [0, 0], "00", ([], {})]
# Enough to tell all bounds apart that the rows above can leave.
ASKED = [("<", column, number) for column in (0, 1) for number in range(-5, 15)] + [
    ("missing", 0), ("missing", 1), ("both", (">", 0, 2), ("<", 0, 8)), ("both",), ("either",)]

# Each value is no deed: not a tuple of one of the words and so many items.
NO_DEEDS = ODD_VALUES + [
    ["put", (1, 2)], ["take", (0, 0)], ["put_at", (0, 0), (1, 2)], ("put",), ("take",), ("change",), ("put_at",),
    ("put", (1, 2), (3, 4)), ("put_at", (0, 0)), ("put_at", (0, 0), (1, 2), None), ("take", (0, 0), (1, 2)),
    ("change", (0, 0)), ("change", (0, 0), (1, 2), (3, 4)), ("Put", (1, 2)), ("puts", (1, 2)), ("", (1, 2)),
    ("take_at", (0, 0)), (b"put", (1, 2)), (["put"], (1, 2)), (("put",), (1, 2)), ((1, 2), "put"), ({}, 1), "put",
    "take", ("refresh", "name"), ("apply", []), (None, (1, 2)), (0, 1)]


def own_indexes(table):
    """New indexes of each kind that were told the table's rows, by the names that the tests give them."""
    found = {"own": PartialIndex(table.shape, ("<", 0, 6)), "first": ColumnIndex(table.shape, 0),
             "second": ColumnIndex(table.shape, 1), "each": BoundsIndex(table.shape),
             "pages": BoundsIndex(table.shape, span=2)}
    for index in found.values():
        index.refresh(table)
    return found


def make_indexes(store):
    """Make the same indexes at a store or a desk."""
    store.index_rows("own", ("<", 0, 6))
    store.index_column("first", 0)
    store.index_column("second", 1)
    store.index_bounds("each")
    store.index_bounds("pages", span=2)


def told(shape, hint, pair):
    """All that calls tell of an index: hint(predicate) and pair(address, predicate)."""
    return [(predicate, list(hint(predicate).bitmap), [pair(address, predicate) for address in shape.addresses()])
            for predicate in ASKED]


def told_by_all(shape, names, hint, pair):
    """What each named index tells, for the calls hint(name, predicate) and pair(name, address, predicate)."""
    return {name: told(shape, lambda predicate: hint(name, predicate),
                       lambda address, predicate: pair(name, address, predicate)) for name in names}


def rows_of(table):
    return list(table.walk())


def outcome(call, *values):
    """The result of a call, or the class of its error and its fields."""
    try:
        return ("returned", call(*values))
    except PagesError as error:
        return (error.__class__, vars(error))


def drawn_deed(draw, shape, rows=NEW_ROWS):
    """A deed, drawn so that it is often refused."""
    word = draw.choice(["put", "put_at", "take", "take", "change"])
    address = draw.choice(shape.addresses() * 6 + NO_ADDRESSES)
    row = draw.choice(rows * 6 + NO_ROWS)
    return {"put": ("put", row), "put_at": ("put_at", address, row), "take": ("take", address),
            "change": ("change", address, row)}[word]


def do(keeper, deed):
    """Do the deed by the call that its word names."""
    return getattr(keeper, deed[0])(*deed[1:])
