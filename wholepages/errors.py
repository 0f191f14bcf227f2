"""The errors of the program: one class for each kind of refusal."""


class PagesError(ValueError):
    """The base class of every error that the program raises."""


class BadShape(PagesError):
    """A value is none of the integers that a shape, or a span of pages, may have."""


class OtherShape(PagesError):
    """Two shapes that should be alike are not."""


class TableFull(PagesError):
    """A table has no address left for a row."""


class BadMarks(PagesError):
    """A value is no mark, or no rows of marks for the shape."""


class NoPlace(PagesError):
    """A value is no address, page, chunk or column of the shape."""

    def __init__(self, place):
        PagesError.__init__(self, "no such place in the shape")
        self.place = place


class BadRow(PagesError):
    """A value is no row for the columns."""

    def __init__(self, row):
        PagesError.__init__(self, "not a row for these columns")
        self.row = row


class SlotTaken(PagesError):
    """A row should come to an address that is occupied."""

    def __init__(self, address):
        PagesError.__init__(self, "the address is occupied")
        self.address = address


class EmptySlot(PagesError):
    """A row should leave an address that is empty."""

    def __init__(self, address):
        PagesError.__init__(self, "the address is empty")
        self.address = address


class BadPredicate(PagesError):
    """A value is no predicate for the columns."""

    def __init__(self, predicate):
        PagesError.__init__(self, "not a predicate for these columns")
        self.predicate = predicate


class TooWide(PagesError):
    """There are more boxes, or tuples, than are gone through."""

    def __init__(self, boxes):
        PagesError.__init__(self, "too many boxes or tuples")
        self.boxes = boxes


class Contradiction(PagesError):
    """No row agrees with the marks, which are kept as a tuple."""

    def __init__(self, marks):
        PagesError.__init__(self, "no row agrees with the marks")
        self.marks = marks


class BadTree(PagesError):
    """A value is no tree over the base hints."""

    def __init__(self, tree):
        PagesError.__init__(self, "not a tree over the base hints")
        self.tree = tree


class TooMany(PagesError):
    """There are more hints, predicates, trees or names than four."""

    def __init__(self, many):
        PagesError.__init__(self, "more than four")
        self.many = many


class NoRoom(PagesError):
    """A room is too small."""

    def __init__(self, offered):
        PagesError.__init__(self, "the room is too small")
        self.offered = offered


class NoName(PagesError):
    """Nothing has the name."""

    def __init__(self, name):
        PagesError.__init__(self, "nothing has this name")
        self.name = name


class NameTaken(PagesError):
    """Something has the name already."""

    def __init__(self, name):
        PagesError.__init__(self, "the name is taken")
        self.name = name


class BadDeed(PagesError):
    """A value is no deed."""

    def __init__(self, deed):
        PagesError.__init__(self, "not a deed")
        self.deed = deed


class Refused(PagesError):
    """A deed of a batch was refused; the number is that of the deed."""

    def __init__(self, number):
        PagesError.__init__(self, "a deed of the batch was refused")
        self.number = number
