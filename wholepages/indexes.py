"""Indexes: what is known of the rows of a table that an index follows."""

from wholepages.bitmaps import Bitmap
from wholepages.hints import Hint
from wholepages.judges import rows_mark, rows_pair
from wholepages.predicates import check_predicate, holds
from wholepages.shapes import check_address
from wholepages.worlds import boxes


def hint_of(shape, predicate, known, listed):
    """Return the hint for the predicate of an index.

    What is known at each address is one of the keys of listed, which has the listed rows for each of them.
    """
    marks = {key: rows_mark(predicate, listed[key]) for key in listed}
    rows = [[marks[known[(page, slot)]] for slot in range(shape.slots)] for page in range(shape.pages)]
    return Hint(predicate, Bitmap(shape, rows))


class Index:
    """The number of the rows of a table; each kind of index knows more of them."""

    def __init__(self, shape):
        self.shape = shape
        self._held = 0

    def entered(self, address, row):
        """Take notice that the row came to the address, which was empty."""
        self._held += 1

    def left(self, address, row):
        """Take notice that the row went from the address."""
        self._held -= 1

    @property
    def held(self):
        """The number of rows that entered and did not leave."""
        return self._held

    def refresh(self, table):
        """Forget everything, then enter every row of the table."""
        self._forget()
        rows = list(table.walk())
        for address, row in rows:
            self.entered(address, row)

    def _forget(self):
        """Forget everything."""
        self._held = 0


class PartialIndex(Index):
    """The addresses of the rows for which a predicate of the index's own holds."""

    def __init__(self, shape, predicate):
        super().__init__(shape)
        check_predicate(predicate, columns=shape.columns)
        self._own = predicate
        self._kept = {}

    def entered(self, address, row):
        """Take notice that the row came to the address, which was empty."""
        super().entered(address, row)
        if holds(self._own, row):
            self._kept[address] = True

    def left(self, address, row):
        """Take notice that the row went from the address."""
        super().left(address, row)
        if address in self._kept:
            del self._kept[address]

    def listing(self):
        """Return the list of the addresses that the index keeps, in order."""
        return sorted(list(self._kept))

    def hint(self, predicate):
        """Return the hint for the predicate."""
        listed = {kept: self._listed(kept, predicate) for kept in (False, True)}
        known = {address: address in self._kept for address in self.shape.addresses()}
        return hint_of(self.shape, predicate, known, listed)

    def pair(self, address, predicate):
        """Return None, or for MAYBE at the address the two rows that show why."""
        check_address(address, self.shape)
        return rows_pair(predicate, self._listed(address in self._kept, predicate))

    def _forget(self):
        super()._forget()
        self._kept = {}

    def _listed(self, kept, predicate):
        """Return the boxes that may be at an address that is kept, or at one that is not."""
        found = boxes([self._own, predicate], columns=self.shape.columns)
        return [box for box in found if holds(self._own, box) == kept]
