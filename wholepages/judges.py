"""Judges: what marks for some predicates leave open of a query."""

from wholepages.errors import Contradiction
from wholepages.marks import OUT, agrees, mark_of
from wholepages.predicates import holds
from wholepages.worlds import worlds


def all_agree(truths, marks):
    """Tell whether each of the truths agrees with its mark; truths beyond the marks are free."""
    return all([agrees(value, mark) for value, mark in zip(truths, marks)])


def first_of_each(judged):
    """Return, of tuples (truth value, row), the first row with True and the first one with False, or None."""
    having = [row for value, row in judged if value]
    lacking = [row for value, row in judged if not value]
    return (having[0], lacking[0]) if having and lacking else None


class Judge:
    """The worlds of a list of predicates and a query, and the verdicts on marks."""

    def __init__(self, predicates, query, *, columns=2):
        self._worlds = worlds([*predicates, query], columns=columns)

    def __call__(self, marks):
        """Return the verdict on the marks; raise Contradiction if no row agrees with them."""
        return mark_of([truths[-1] for truths, row in self._agreeing(marks)])

    def allowed(self, marks):
        """Return the list of the worlds whose truths for the predicates agree with the marks."""
        return [(truths, row) for truths, row in self._worlds if all_agree(truths, marks)]

    def pair(self, marks):
        """Return None, or for MAYBE the first row with the query and the first one without it."""
        return first_of_each([(truths[-1], row) for truths, row in self._agreeing(marks)])

    def _agreeing(self, marks):
        """Return the allowed worlds; raise Contradiction if there is none."""
        found = self.allowed(marks)
        if not found:
            raise Contradiction(tuple(marks))
        return found


def rows_mark(predicate, rows):
    """Return what is known if the row is one of these: IN, OUT (also for no row) or MAYBE."""
    return mark_of([holds(predicate, row) for row in rows]) if rows else OUT


def rows_pair(predicate, rows):
    """Return None, or for MAYBE the first row with the predicate and the first one without it."""
    return first_of_each([(holds(predicate, row), row) for row in rows])
