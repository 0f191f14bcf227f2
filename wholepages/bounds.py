"""Indexes that keep the least and the greatest integers of ranges of pages."""

from wholepages.indexes import Index, hint_of
from wholepages.judges import rows_pair
from wholepages.shapes import check_address, check_extent, check_page
from wholepages.standins import numbers_of, within
from wholepages.worlds import boxes, combine

MOST_SPAN = 16


def widened(bound, value):
    """Return the tuple (low, high, missing) of a column that the value entered, too."""
    low, high, missing = bound
    if value is None:
        return (low, high, True)
    if low is None:
        return (value, value, missing)
    return (min(low, value), max(high, value), missing)


def candidates(bound, numbers):
    """Return the list of one value for each class of which the column may have a value."""
    low, high, missing = bound
    start = [None] if missing else []
    return start if low is None else start + within(numbers, low, high)


class BoundsIndex(Index):
    """For each range of pages and each column, the least and the greatest integer, and whether None entered."""

    def __init__(self, shape, *, span=1):
        super().__init__(shape)
        check_extent(span, MOST_SPAN)
        self._span = span
        # Each range in which a row entered has a list of the bounds of the columns.
        self._ranges = {}

    def entered(self, address, row):
        """Take notice that the row came to the address, which was empty."""
        super().entered(address, row)
        number = address[0] // self._span
        old = self._ranges.get(number, [(None, None, False)] * self.shape.columns)
        self._ranges[number] = [widened(bound, value) for bound, value in zip(old, row)]

    def left(self, address, row):
        """Take notice that the row went from the address, which changes no bounds."""
        super().left(address, row)

    def bounds(self, page):
        """Return None, or the list of a tuple (low, high, missing) for each column in the page's range."""
        check_page(page, self.shape)
        number = page // self._span
        return list(self._ranges[number]) if number in self._ranges else None

    def hint(self, predicate):
        """Return the hint for the predicate."""
        known = {address: address[0] // self._span for address in self.shape.addresses()}
        last = (self.shape.pages - 1) // self._span
        listed = {number: self._listed(number, predicate) for number in range(last + 1)}
        return hint_of(self.shape, predicate, known, listed)

    def pair(self, address, predicate):
        """Return None, or for MAYBE at the address the two rows that show why."""
        check_address(address, self.shape)
        return rows_pair(predicate, self._listed(address[0] // self._span, predicate))

    def _forget(self):
        super()._forget()
        self._ranges = {}

    def _listed(self, number, predicate):
        """Return the list of all rows of candidates in the range."""
        # Called for what it raises, which must not depend on what is kept.
        boxes([predicate], columns=self.shape.columns)
        if number not in self._ranges:
            return []
        return combine([candidates(bound, numbers_of([predicate], column))
                        for column, bound in enumerate(self._ranges[number])])
