"""Marks: what is known of a truth value, surely False, maybe, or surely True."""

OUT = 0
MAYBE = 1
IN = 2


def both_mark(a, b):
    """Return the marks joined by "and"."""
    return min(a, b)


def either_mark(a, b):
    """Return the marks joined by "or"."""
    return max(a, b)


def less_mark(a, b):
    """Return the marks joined by "less"."""
    return min(a, 2 - b)


def agrees(value, mark):
    """Tell whether a truth value agrees with the mark."""
    return mark == MAYBE or value == (mark == IN)


def truths_of(mark):
    """Return the list of the truth values that agree with the mark, False first."""
    return [value for value in (False, True) if agrees(value, mark)]


def mark_of(truths):
    """Return the surest mark that all the truth values, at least one, agree with."""
    if False not in truths:
        return IN
    return MAYBE if True in truths else OUT
