"""Staircases: for each room, which pages to forget so that a query makes the fewest tests."""

from wholepages.errors import NoRoom
from wholepages.marks import MAYBE
from wholepages.scans import judge_of


def subsets_of(numbers):
    """Return the list of all ascending tuples of some of the ascending numbers, the empty one first."""
    found = [()]
    for number in numbers:
        found = found + [(*chosen, number) for chosen in found]
    return found


def count_tests(judge, rows, chosen):
    """Return how many rows are tested, given by the marks of all hints, if the chosen hints are forgotten."""
    judged = [judge([MAYBE if number in chosen else mark for number, mark in enumerate(marks)]) for marks in rows]
    return judged.count(MAYBE)


def bits_of(numbers):
    """Return the integer in which just the bits with these numbers are set."""
    return sum([1 << number for number in numbers])


def count_bits(bits):
    """Return how many bits of the integer are set."""
    return sum([(bits >> number) & 1 for number in range(bits.bit_length())])


def choices_of(hints, page, judge, rows):
    """Return a tuple (bits, entries, tests, pairs) for each set of the hints that are exact on the page.

    The page is forgotten in the hints of the set. The bits are the hints in which it is whole then, the entries
    those of the hints in which it is still exact, and the pairs are (number of the hint, page) for the set.
    """
    kinds = [hint.bitmap.kind(page) for hint in hints]
    exact = [number for number, kind in enumerate(kinds) if kind == "exact"]
    whole = bits_of([number for number, kind in enumerate(kinds) if kind == "whole"])
    return [(whole | bits_of(chosen), len(exact) - len(chosen), count_tests(judge, rows, chosen),
             tuple([(number, page) for number in chosen])) for chosen in subsets_of(exact)]


def fewest(candidates):
    """Return a dict from each key of the candidates (key, tests, pairs) to the (tests, pairs) with fewest tests."""
    best = {}
    for key, tests, pairs in candidates:
        if key not in best or tests < best[key][0]:
            best[key] = (tests, pairs)
    return best


def with_page(best, choices):
    """Return what is best with one page more, for the keys (bits, entries)."""
    return fewest([((bits | more_bits, entries + more_entries), tests + more_tests, pairs + more_pairs)
                   for (bits, entries), (tests, pairs) in best.items()
                   for more_bits, more_entries, more_tests, more_pairs in choices])


def with_chunk_closed(best):
    """Return what is best behind a chunk, in which all whole pages of a hint share one entry."""
    return fewest([((0, entries + count_bits(bits)), tests, pairs)
                   for (bits, entries), (tests, pairs) in best.items()])


def best_by_size(table, hints, query):
    """Return a dict from total sizes that forgettings leave to the (tests, pairs) with fewest tests."""
    judge = judge_of(table, hints, query)
    used = [address for address, _ in table.walk()]
    best = {(0, 0): (0, ())}
    for chunk in range(table.shape.chunks):
        for page in table.shape.pages_of(chunk):
            rows = [[hint.bitmap.mark(address) for hint in hints] for address in used if address[0] == page]
            best = with_page(best, choices_of(hints, page, judge, rows))
        best = with_chunk_closed(best)
    return {entries: best[(bits, entries)] for bits, entries in best}


class Staircase:
    """The fewest tests of a query for each room, over a table as it was, and what to forget for them."""

    def __init__(self, table, hints, query):
        best = best_by_size(table, hints, query)
        # To forget an exact page less leaves the size as it is or one greater, and makes no more tests. So each
        # size from the least to the full one is there, and what is best for it is best for a room of this size.
        sizes = sorted(list(best))
        self._steps = [(size, best[size][0]) for size in sizes]
        self._choices = [sorted(list(best[size][1])) for size in sizes]

    @property
    def least(self):
        """The least total size that a forgetting leaves."""
        return self._steps[0][0]

    @property
    def full(self):
        """The total size with nothing forgotten."""
        return self._steps[-1][0]

    def tests(self, room):
        """Return the fewest tests for the room."""
        return self._steps[self._step_of(room)][1]

    def choice(self, room):
        """Return the ascending list of the (number of the hint, page) to forget for the room."""
        return list(self._choices[self._step_of(room)])

    def __iter__(self):
        return iter(self._steps)

    def _step_of(self, room):
        """Return the number of the step that counts for the room."""
        if room < self.least:
            raise NoRoom(room)
        return min(room, self.full) - self.least
