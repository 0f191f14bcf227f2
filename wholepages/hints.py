"""Hints: a predicate and a bitmap that says where it surely, maybe or surely not holds."""

from wholepages.bitmaps import Bitmap
from wholepages.marks import IN, MAYBE, OUT, agrees
from wholepages.predicates import check_predicate, holds
from wholepages.shapes import check_alike


class Hint:
    """A predicate and a bitmap; a hint never changes."""

    __slots__ = ("predicate", "bitmap")

    def __init__(self, predicate, bitmap):
        check_predicate(predicate, columns=bitmap.shape.columns)
        self.predicate = predicate
        self.bitmap = bitmap

    @classmethod
    def exact(cls, predicate, table):
        """Make the hint that has IN where the predicate holds, and OUT everywhere else."""
        shape = table.shape
        # A value that is no predicate could not be asked about the rows.
        check_predicate(predicate, columns=shape.columns)
        marks = [[OUT] * shape.slots for _ in range(shape.pages)]
        for (page, slot), row in table.walk():
            if holds(predicate, row):
                marks[page][slot] = IN
        return cls(predicate, Bitmap(shape, marks))

    @property
    def size(self):
        """The size of the bitmap."""
        return self.bitmap.size

    def forgotten(self, *pages):
        """Return a hint with these pages forgotten."""
        return Hint(self.predicate, self.bitmap.forgotten(*pages))

    def touched(self, address):
        """Return a hint with MAYBE at the address."""
        return Hint(self.predicate, self.bitmap.marked(address, MAYBE))

    def wrong_at(self, table):
        """Return the list of the addresses of rows that the marks are wrong about, in order."""
        check_alike(self.bitmap.shape, table.shape)
        return [address for address, row in table.walk()
                if not agrees(holds(self.predicate, row), self.bitmap.mark(address))]

    def __and__(self, other):
        return Hint(("both", self.predicate, other.predicate), self.bitmap & other.bitmap)

    def __or__(self, other):
        return Hint(("either", self.predicate, other.predicate), self.bitmap | other.bitmap)

    def __sub__(self, other):
        return Hint(("both", self.predicate, ("untrue", other.predicate)), self.bitmap - other.bitmap)
