"""Boxes and worlds: the rows, and the truths, that are enough to speak of all rows."""

from wholepages.errors import TooWide
from wholepages.predicates import check_predicate, holds
from wholepages.standins import numbers_of, stand_ins

MOST_TUPLES = 256


def combine(choices):
    """Return the list of all tuples with an item of each list; raise TooWide above 256."""
    many = 1
    for choice in choices:
        many = many * len(choice)
    if many > MOST_TUPLES:
        raise TooWide(many)
    # The lists before an empty one may be so long that their own tuples are too many.
    if many == 0:
        return []
    tuples = [()]
    for choice in choices:
        tuples = [(*start, item) for start in tuples for item in choice]
    return tuples


def boxes(predicates, *, columns=2):
    """Return the list of the boxes of the predicates."""
    for predicate in predicates:
        check_predicate(predicate, columns=columns)
    return combine([stand_ins(numbers_of(predicates, column)) for column in range(columns)])


def worlds(predicates, *, columns=2):
    """Return the list of a tuple (truths, first box with them) for each world."""
    first = {}
    for box in boxes(predicates, columns=columns):
        truths = tuple([holds(predicate, box) for predicate in predicates])
        if truths not in first:
            first[truths] = box
    return list(first.items())


def parting_row(first, second, *, columns=2):
    """Return the first box for which first holds and second does not, or None."""
    for box in boxes([first, second], columns=columns):
        if holds(first, box) and not holds(second, box):
            return box
    return None
