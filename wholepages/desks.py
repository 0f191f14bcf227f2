"""Desks: a store, and a shelf whose hints stay true of the store's table."""

from wholepages.hints import Hint
from wholepages.limits import check_many
from wholepages.scans import scan
from wholepages.shelves import Shelf, check_room
from wholepages.staircases import Staircase
from wholepages.stores import Store
from wholepages.trees import check_plan, check_tree, tree_hint


def entered_at(deeds, results):
    """Return the list of the addresses at which the deeds of a batch put or changed rows."""
    addresses = []
    for deed, result in zip(deeds, results):
        if deed[0] == "put" or deed[0] == "put_at":
            addresses.append(result)
        elif deed[0] == "change":
            addresses.append(deed[1])
    return addresses


class Desk:
    """A store and a shelf; names of indexes and names of kept hints are apart."""

    def __init__(self, shape, *, room=64):
        self.shape = shape
        self._shelf = Shelf(shape, room)
        self._store = Store(shape)

    @property
    def room(self):
        """The room of the kept hints."""
        return self._shelf.room

    @property
    def size(self):
        """The total size of the kept hints."""
        return self._shelf.size

    def put(self, row):
        """Put the row at the first empty address, and return this address."""
        address = self._store.put(row)
        self._shelf.touched(address)
        return address

    def put_at(self, address, row):
        """Put the row at the address, and return the address."""
        self._store.put_at(address, row)
        self._shelf.touched(address)
        return address

    def take(self, address):
        """Remove the row at the address, and return the row."""
        # Marks at empty addresses mean nothing, so they stay.
        return self._store.take(address)

    def change(self, address, row):
        """Replace the row at the address, and return the old row."""
        old = self._store.change(address, row)
        self._shelf.touched(address)
        return old

    def apply(self, deeds):
        """Do all deeds of the batch, or none, and return the list of their results."""
        results = self._store.apply(deeds)
        addresses = entered_at(deeds, results)
        self._shelf.touched(*addresses)
        return results

    def table_copy(self):
        """Return a table with the same rows."""
        return self._store.table_copy()

    def index_rows(self, name, predicate):
        """Make a PartialIndex with this name."""
        self._store.index_rows(name, predicate)

    def index_column(self, name, column):
        """Make a ColumnIndex with this name."""
        self._store.index_column(name, column)

    def index_bounds(self, name, *, span=1):
        """Make a BoundsIndex with this name."""
        self._store.index_bounds(name, span=span)

    def refresh(self, name):
        """Refresh the index by the table."""
        self._store.refresh(name)

    def ask(self, index, predicate):
        """Return the hint of the named index for the predicate."""
        return self._store.hint(index, predicate)

    def pair(self, index, address, predicate):
        """Return None, or for MAYBE at the address in the index's hint the two rows that show why."""
        return self._store.pair(index, address, predicate)

    def names(self):
        """Return the list of the names of the kept hints, in the order of keeping."""
        return self._shelf.names()

    def hint(self, name):
        """Return the kept hint with the name."""
        return self._shelf.hint(name)

    def drop(self, name):
        """Keep the hint with the name no longer."""
        self._shelf.drop(name)

    def forget(self, name, *pages):
        """Forget these pages in the kept hint with the name."""
        self._shelf.forget(name, *pages)

    def keep(self, name, index, predicate):
        """Keep the hint of the named index for the predicate."""
        self._shelf.check_new(name)
        self._shelf.keep(name, self.ask(index, predicate))

    def run(self, query, *names, plan=None):
        """Answer the query by the plan over the kept hints with these names; None keeps them apart."""
        hints = self._base_hints(names)
        trees = list(range(len(hints))) if plan is None else plan
        check_plan(trees, len(hints))
        return scan(self.table_copy(), [tree_hint(tree, hints) for tree in trees], query)

    def keep_answer(self, name, query, *names):
        """Answer the query by the kept hints with these names, and keep the exact hint for it."""
        self._shelf.check_new(name)
        found = self.run(query, *names)
        self._shelf.keep(name, Hint.exact(query, self.table_copy()))
        return found

    def keep_join(self, name, tree, *names):
        """Keep the hint that the tree makes of the kept hints with these names."""
        self._shelf.check_new(name)
        hints = self._base_hints(names)
        check_tree(tree, len(hints))
        self._shelf.keep(name, tree_hint(tree, hints))

    def staircase(self, query, *names):
        """Return the staircase of the query and the kept hints with these names."""
        return Staircase(self.table_copy(), self._base_hints(names), query)

    def resize(self, room, *, query=None):
        """Set the room; with a query forget first what leaves it the fewest tests."""
        check_room(room, self.shape)
        if query is not None:
            names = self.names()
            chosen = self.staircase(query, *names).choice(room)
            for number, name in enumerate(names):
                pages = [page for at, page in chosen if at == number]
                self._shelf.forget(name, *pages)
        self._shelf.resize(room)

    def _base_hints(self, names):
        """Return the list of the kept hints with these names."""
        hints = [self._shelf.hint(name) for name in names]
        check_many(len(hints))
        return hints
