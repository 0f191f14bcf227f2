"""Shapes: how many pages, slots and columns a table has, and its chunks of pages."""

from wholepages.errors import BadShape, NoPlace, OtherShape
from wholepages.integers import is_between


def check_extent(value, most):
    """Raise BadShape for every value that is not an integer from 1 to most."""
    if not is_between(value, 1, most):
        raise BadShape("not an integer within the limits of a shape")


class Shape:
    """The four integers of a shape; its pages, chunks and addresses."""

    __slots__ = ("pages", "slots", "chunk", "columns")

    MOST_PAGES = 16
    MOST_SLOTS = 8
    MOST_CHUNK = 16
    MOST_COLUMNS = 3

    def __init__(self, pages, slots, *, chunk=4, columns=2):
        check_extent(pages, Shape.MOST_PAGES)
        check_extent(slots, Shape.MOST_SLOTS)
        check_extent(chunk, Shape.MOST_CHUNK)
        check_extent(columns, Shape.MOST_COLUMNS)
        self.pages = pages
        self.slots = slots
        self.chunk = chunk
        self.columns = columns

    @property
    def chunks(self):
        """The number of chunks."""
        return (self.pages + self.chunk - 1) // self.chunk

    def chunk_of(self, page):
        """Return the chunk of the page."""
        check_page(page, self)
        return page // self.chunk

    def pages_of(self, chunk):
        """Return the ascending list of the pages of the chunk."""
        if not is_between(chunk, 0, self.chunks - 1):
            raise NoPlace(chunk)
        first = chunk * self.chunk
        return list(range(first, min(first + self.chunk, self.pages)))

    def addresses(self):
        """Return the list of all addresses, in order."""
        return [(page, slot) for page in range(self.pages) for slot in range(self.slots)]

    def __contains__(self, address):
        if not isinstance(address, tuple) or len(address) != 2:
            return False
        page, slot = address
        return is_between(page, 0, self.pages - 1) and is_between(slot, 0, self.slots - 1)


def check_page(page, shape):
    """Raise NoPlace for every value that is not a page of the shape."""
    if not is_between(page, 0, shape.pages - 1):
        raise NoPlace(page)


def check_address(address, shape):
    """Raise NoPlace for every value that is not an address of the shape."""
    if address not in shape:
        raise NoPlace(address)


def extents_of(shape):
    """Return the tuple of the four integers of the shape."""
    return (shape.pages, shape.slots, shape.chunk, shape.columns)


def check_alike(shape, other):
    """Raise OtherShape if the two shapes are not alike."""
    if extents_of(shape) != extents_of(other):
        raise OtherShape("the shapes are not alike")
