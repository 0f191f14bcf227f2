"""Bitmaps: a mark for each address of a shape, and how pages of them are forgotten."""

from wholepages.errors import BadMarks
from wholepages.integers import is_between
from wholepages.marks import IN, MAYBE, OUT, both_mark, either_mark, less_mark
from wholepages.shapes import check_address, check_alike, check_page


def check_mark(mark):
    """Raise BadMarks for every value that is not a mark."""
    if not is_between(mark, OUT, IN):
        raise BadMarks("not a mark")


def check_length(items, length):
    """Raise BadMarks for every value that is not a list or tuple of this length."""
    if not isinstance(items, (list, tuple)) or len(items) != length:
        raise BadMarks("not a list or tuple of the right length")


def check_marks(rows, shape):
    """Raise BadMarks for every value that is not a row of marks for each page of the shape."""
    check_length(rows, shape.pages)
    for row in rows:
        check_length(row, shape.slots)
        for mark in row:
            check_mark(mark)


def mark_pairs(first, second):
    """Return for each page the list of the pairs of marks that two bitmaps have at its addresses."""
    check_alike(first.shape, second.shape)
    return [list(zip(ours, theirs)) for ours, theirs in zip(first, second)]


class Bitmap:
    """One mark for each address of a shape; a bitmap never changes."""

    def __init__(self, shape, rows):
        check_marks(rows, shape)
        self.shape = shape
        self._marks = tuple([tuple(row) for row in rows])

    @classmethod
    def filled(cls, shape, mark):
        """Make a bitmap with this mark everywhere."""
        return cls(shape, [[mark] * shape.slots] * shape.pages)

    def mark(self, address):
        """Return the mark at the address."""
        check_address(address, self.shape)
        page, slot = address
        return self._marks[page][slot]

    def marks_of(self, page):
        """Return the tuple of the marks of the page."""
        check_page(page, self.shape)
        return self._marks[page]

    def kind(self, page):
        """Return the kind of the page: "blank", "whole" or "exact"."""
        marks = self.marks_of(page)
        if marks.count(OUT) == len(marks):
            return "blank"
        return "whole" if marks.count(MAYBE) == len(marks) else "exact"

    def entries(self, chunk):
        """Return the number of entries of the chunk, in which all whole pages share one."""
        kinds = [self.kind(page) for page in self.shape.pages_of(chunk)]
        return kinds.count("exact") + (1 if "whole" in kinds else 0)

    @property
    def size(self):
        """The sum of the entries of all chunks."""
        return sum([self.entries(chunk) for chunk in range(self.shape.chunks)])

    def marked(self, address, mark):
        """Return a bitmap with this mark at the address."""
        check_address(address, self.shape)
        page, slot = address
        rows = [list(row) for row in self._marks]
        rows[page][slot] = mark
        return Bitmap(self.shape, rows)

    def forgotten(self, *pages):
        """Return a bitmap with these pages forgotten."""
        for page in pages:
            check_page(page, self.shape)
        unknown = [MAYBE] * self.shape.slots
        return Bitmap(self.shape, [unknown if page in pages else row for page, row in enumerate(self._marks)])

    def tells_all(self, other):
        """Tell whether each mark of the other bitmap is MAYBE or equals the own mark there."""
        return all([theirs == MAYBE or theirs == ours
                    for pairs in mark_pairs(self, other) for ours, theirs in pairs])

    def __and__(self, other):
        return Bitmap(self.shape, [[both_mark(a, b) for a, b in pairs] for pairs in mark_pairs(self, other)])

    def __or__(self, other):
        return Bitmap(self.shape, [[either_mark(a, b) for a, b in pairs] for pairs in mark_pairs(self, other)])

    def __sub__(self, other):
        return Bitmap(self.shape, [[less_mark(a, b) for a, b in pairs] for pairs in mark_pairs(self, other)])

    def __contains__(self, address):
        # A value of another kind may not even be a pair, so the shape is asked first.
        return address in self.shape and self.mark(address) != OUT

    def __iter__(self):
        return iter(self._marks)
