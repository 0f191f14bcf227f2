"""Indexes that keep the value in one column of each row."""

from wholepages.errors import NoPlace
from wholepages.indexes import Index, hint_of
from wholepages.integers import is_between
from wholepages.judges import rows_pair
from wholepages.shapes import check_address
from wholepages.standins import numbers_of, stand_in
from wholepages.worlds import boxes


def with_value(row, column, value):
    """Return the row with the value in the column."""
    items = list(row)
    items[column] = value
    return tuple(items)


class ColumnIndex(Index):
    """The value in one column of each row, with the address."""

    def __init__(self, shape, column):
        super().__init__(shape)
        if not is_between(column, 0, shape.columns - 1):
            raise NoPlace(column)
        self._column = column
        self._values = {}

    def entered(self, address, row):
        """Take notice that the row came to the address, which was empty."""
        super().entered(address, row)
        self._values[address] = row[self._column]

    def left(self, address, row):
        """Take notice that the row went from the address."""
        super().left(address, row)
        del self._values[address]

    def listing(self):
        """Return the list of a tuple (value, address) for each row: None first, then by value and address."""
        items = [(self._values[address], address) for address in sorted(list(self._values))]
        # None cannot be compared with an integer.
        missing = [item for item in items if item[0] is None]
        return missing + sorted([item for item in items if item[0] is not None])

    def hint(self, predicate):
        """Return the hint for the predicate."""
        known = {address: self._known(address) for address in self.shape.addresses()}
        listed = {}
        for values in known.values():
            if values not in listed:
                listed[values] = self._listed(values, predicate)
        return hint_of(self.shape, predicate, known, listed)

    def pair(self, address, predicate):
        """Return None, or for MAYBE at the address the two rows that show why."""
        check_address(address, self.shape)
        return rows_pair(predicate, self._listed(self._known(address), predicate))

    def _forget(self):
        super()._forget()
        self._values = {}

    def _known(self, address):
        """Return a tuple with the value at the address, or an empty one if no row is there."""
        return (self._values[address],) if address in self._values else ()

    def _listed(self, values, predicate):
        """Return the boxes that have the stand-in of one of the values, with the value in its place."""
        found = boxes([predicate], columns=self.shape.columns)
        numbers = numbers_of([predicate], self._column)
        return [with_value(box, self._column, value) for value in values
                for box in found if box[self._column] == stand_in(value, numbers)]
