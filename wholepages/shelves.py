"""Shelves: a few named hints, fitted to a room."""

from wholepages.errors import NoRoom
from wholepages.limits import MOST, check_many
from wholepages.names import check_free, check_name
from wholepages.shapes import check_address, check_alike


def total_size(hints):
    """Return the sum of the sizes of the hints."""
    return sum([hint.size for hint in hints])


def fullest(hints):
    """Return (entries, number of the hint, chunk) where the most entries are, or None if there is no hint."""
    places = [(hint.bitmap.entries(chunk), number, chunk)
              for number, hint in enumerate(hints) for chunk in range(hint.bitmap.shape.chunks)]
    # Of several with the most entries, max takes the first one.
    return max(places, key=lambda place: place[0], default=None)


def without_exact(hint, chunk):
    """Return the hint with all pages of the chunk forgotten that are exact in it."""
    bitmap = hint.bitmap
    pages = [page for page in bitmap.shape.pages_of(chunk) if bitmap.kind(page) == "exact"]
    return hint.forgotten(*pages)


def fit(hints, room):
    """Return the list of the hints, of which as many pages are forgotten as the room asks for."""
    fitted = list(hints)
    while total_size(fitted) > room:
        place = fullest(fitted)
        if place is None or place[0] < 2:
            raise NoRoom(room)
        _, number, chunk = place
        fitted[number] = without_exact(fitted[number], chunk)
    return fitted


def touched_at(hint, addresses):
    """Return the hint with MAYBE at all these addresses."""
    found = hint
    for address in addresses:
        found = found.touched(address)
    return found


def check_room(room, shape):
    """Raise NoRoom if a shelf of the shape could not always be fitted to the room."""
    if room < MOST * shape.chunks:
        raise NoRoom(room)


class Shelf:
    """At most four named hints of one shape, in the order of keeping, fitted to a room."""

    def __init__(self, shape, room):
        check_room(room, shape)
        self.shape = shape
        self._room = room
        self._hints = {}

    @property
    def room(self):
        """The room, which the size never exceeds."""
        return self._room

    @property
    def size(self):
        """The total size of the kept hints."""
        return total_size(list(self._hints.values()))

    def names(self):
        """Return the list of the names of the kept hints, in the order of keeping."""
        return list(self._hints)

    def hint(self, name):
        """Return the kept hint with the name."""
        check_name(name, self._hints)
        return self._hints[name]

    def check_new(self, name):
        """Raise NameTaken if a kept hint has the name, and TooMany if no other hint can be kept."""
        check_free(name, self._hints)
        check_many(len(self._hints) + 1)

    def keep(self, name, hint):
        """Keep the hint with this name."""
        self.check_new(name)
        check_alike(self.shape, hint.bitmap.shape)
        self._settle({**self._hints, name: hint})

    def drop(self, name):
        """Keep the hint with the name no longer."""
        check_name(name, self._hints)
        self._settle({other: self._hints[other] for other in self._hints if other != name})

    def forget(self, name, *pages):
        """Forget these pages in the hint with the name."""
        check_name(name, self._hints)
        self._settle({**self._hints, name: self._hints[name].forgotten(*pages)})

    def touched(self, *addresses):
        """Make the marks at these addresses MAYBE in every kept hint."""
        for address in addresses:
            check_address(address, self.shape)
        self._settle({name: touched_at(self._hints[name], addresses) for name in self._hints})

    def resize(self, room):
        """Set the room."""
        check_room(room, self.shape)
        self._room = room
        self._settle(self._hints)

    def _settle(self, named):
        """Keep these named hints, fitted to the room."""
        fitted = fit(list(named.values()), self._room)
        self._hints = dict(zip(list(named), fitted))
