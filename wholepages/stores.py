"""Stores: a table and the named indexes that follow it, and deeds that are done all or none."""

from wholepages.bounds import BoundsIndex
from wholepages.columns import ColumnIndex
from wholepages.errors import BadDeed, PagesError, Refused
from wholepages.indexes import PartialIndex
from wholepages.names import check_free, check_name
from wholepages.tables import Table

# For the word of each deed, the number of items of the whole tuple.
LENGTHS = {"put": 2, "put_at": 3, "take": 2, "change": 3}


def check_deed(deed):
    """Raise BadDeed for every value that is not a tuple of a deed's word and so many items."""
    if not isinstance(deed, tuple) or len(deed) == 0 or not isinstance(deed[0], str):
        raise BadDeed(deed)
    if LENGTHS.get(deed[0]) != len(deed):
        raise BadDeed(deed)


def do_deed(keeper, deed):
    """Do the deed on a table or a store, and return its result."""
    check_deed(deed)
    word = deed[0]
    if word == "put":
        return keeper.put(deed[1])
    if word == "put_at":
        return keeper.put_at(deed[1], deed[2])
    if word == "take":
        return keeper.take(deed[1])
    return keeper.change(deed[1], deed[2])


class Store:
    """A table and the named indexes that are told what happens to it."""

    def __init__(self, shape):
        self.shape = shape
        self._table = Table(shape)
        self._indexes = {}

    def put(self, row):
        """Put the row at the first empty address, and return this address."""
        address = self._table.put(row)
        self._tell_entered(address)
        return address

    def put_at(self, address, row):
        """Put the row at the address, and return the address."""
        self._table.put_at(address, row)
        self._tell_entered(address)
        return address

    def take(self, address):
        """Remove the row at the address, and return the row."""
        old = self._table.take(address)
        self._tell_left(address, old)
        return old

    def change(self, address, row):
        """Replace the row at the address, and return the old row."""
        old = self._table.change(address, row)
        self._tell_left(address, old)
        self._tell_entered(address)
        return old

    def apply(self, deeds):
        """Do all deeds of the batch, or none, and return the list of their results."""
        # What an index keeps cannot be taken back, so the deeds are tried where none is told of them.
        trial = self._table.copied()
        for number, deed in enumerate(deeds):
            try:
                do_deed(trial, deed)
            except PagesError as error:
                raise Refused(number) from error
        return [do_deed(self, deed) for deed in deeds]

    def table_copy(self):
        """Return a table with the same rows."""
        return self._table.copied()

    def index_rows(self, name, predicate):
        """Make a PartialIndex with this name."""
        check_free(name, self._indexes)
        self._follow(name, PartialIndex(self.shape, predicate))

    def index_column(self, name, column):
        """Make a ColumnIndex with this name."""
        check_free(name, self._indexes)
        self._follow(name, ColumnIndex(self.shape, column))

    def index_bounds(self, name, *, span=1):
        """Make a BoundsIndex with this name."""
        check_free(name, self._indexes)
        self._follow(name, BoundsIndex(self.shape, span=span))

    def refresh(self, name):
        """Refresh the index by the table."""
        check_name(name, self._indexes)
        self._indexes[name].refresh(self._table)

    def hint(self, name, predicate):
        """Return the index's hint for the predicate."""
        check_name(name, self._indexes)
        return self._indexes[name].hint(predicate)

    def pair(self, name, address, predicate):
        """Return None, or for MAYBE at the address in the index's hint the two rows that show why."""
        check_name(name, self._indexes)
        return self._indexes[name].pair(address, predicate)

    def _follow(self, name, index):
        """Tell a new index the rows that the table has, and give it the name."""
        index.refresh(self._table)
        self._indexes[name] = index

    def _tell_entered(self, address):
        """Tell each index of the row that came to the address."""
        row = self._table.row_at(address)
        for index in list(self._indexes.values()):
            index.entered(address, row)

    def _tell_left(self, address, row):
        """Tell each index of the row that went from the address."""
        for index in list(self._indexes.values()):
            index.left(address, row)
