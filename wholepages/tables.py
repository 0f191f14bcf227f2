"""Tables: rows at the addresses of a shape."""

from wholepages.errors import BadRow, EmptySlot, SlotTaken, TableFull
from wholepages.integers import GREATEST, is_between
from wholepages.shapes import check_address


def check_row(row, columns):
    """Return the row as a tuple; raise BadRow for every value that is not a row."""
    if not isinstance(row, (list, tuple)) or len(row) != columns:
        raise BadRow(row)
    for value in row:
        if value is not None and not is_between(value, -GREATEST, GREATEST):
            raise BadRow(row)
    return tuple(row)


class Table:
    """The rows of a table: each address of the shape is empty or has one row."""

    def __init__(self, shape):
        self.shape = shape
        self._rows = {}

    @classmethod
    def of(cls, shape, rows):
        """Make a table with these rows at the addresses in order; None leaves one empty."""
        addresses = shape.addresses()
        if len(rows) > len(addresses):
            raise TableFull("more items than addresses")
        table = cls(shape)
        for address, row in zip(addresses, rows):
            if row is not None:
                table.put_at(address, row)
        return table

    def put(self, row):
        """Put the row at the first empty address, and return this address."""
        kept = check_row(row, self.shape.columns)
        for address in self.shape.addresses():
            if address not in self._rows:
                self._rows[address] = kept
                return address
        raise TableFull("every address is occupied")

    def put_at(self, address, row):
        """Put the row at the address, and return the address."""
        check_address(address, self.shape)
        kept = check_row(row, self.shape.columns)
        if address in self._rows:
            raise SlotTaken(address)
        self._rows[address] = kept
        return address

    def take(self, address):
        """Remove the row at the address, and return the row."""
        check_address(address, self.shape)
        if address not in self._rows:
            raise EmptySlot(address)
        return self._rows.pop(address)

    def change(self, address, row):
        """Replace the row at the address, and return the old row."""
        check_address(address, self.shape)
        kept = check_row(row, self.shape.columns)
        if address not in self._rows:
            raise EmptySlot(address)
        old = self._rows[address]
        self._rows[address] = kept
        return old

    def row_at(self, address):
        """Return the row at the address, or None if it is empty."""
        check_address(address, self.shape)
        return self._rows.get(address)

    def walk(self):
        """Go through the tuples (address, row) of all rows, in order."""
        for address in self.shape.addresses():
            if address in self._rows:
                yield (address, self._rows[address])

    @property
    def used(self):
        """The number of rows."""
        return len(self._rows)

    def copied(self):
        """Return a table with the same rows."""
        twin = Table(self.shape)
        twin._rows = {address: self._rows[address] for address in self._rows}
        return twin

    def __contains__(self, address):
        # A value of another kind may have no hash, so the shape is asked first.
        return address in self.shape and address in self._rows
