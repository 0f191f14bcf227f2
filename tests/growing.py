"""Trees for tests, and what they mean, in words of their own."""

import functools
import itertools
from unittest import mock

from tests.samples import ODD_VALUES

WORDS = ("and", "or", "less")


def trees_of(nodes, count):
    """All trees with this many nodes over this many base hints."""
    if nodes == 1:
        return list(range(count))
    return [(word, left, right) for part in range(1, nodes - 1, 2)
            for left in trees_of(part, count) for right in trees_of(nodes - 1 - part, count) for word in WORDS]


def numbers_in(tree):
    """The numbers of base hints in the tree, from left to right."""
    return [tree] if isinstance(tree, int) else numbers_in(tree[1]) + numbers_in(tree[2])


@functools.cache
def meaning(tree):
    """The tree as a function of a list of truth values."""
    return eval("lambda given: " + text_of(tree))


def text_of(tree):
    if isinstance(tree, int):
        return f"given[{tree}]"
    sign = {"and": "and", "or": "or", "less": "and not"}[tree[0]]
    return f"({text_of(tree[1])} {sign} {text_of(tree[2])})"


def truths_for(marks):
    """All lists of truth values that agree with the marks."""
    return [list(truths) for truths in itertools.product(*[
        {0: [False], 1: [False, True], 2: [True]}[mark] for mark in marks])]


def mark_for(values):
    """The surest mark with which all these truth values agree."""
    return {(False,): 0, (True,): 2}.get(tuple(set(values)), 1)


# Values that are no tree over two base hints, alone or anywhere in a tree.
NO_TREES = [value for value in ODD_VALUES if value is not None] + [
    None, -1, 2, 3, 10 ** 18, "and", "0", ["and", 0, 1], ("and", 0), ("and",), ("and", 0, 1, 1), ("not", 0), ("not", 0, 1),
    ("And", 0, 1), ("both", 0, 1), ("either", 0, 1), ("", 0, 1), (0, 1), (0, 0, 1), (None, 0, 1), (["and"], 0, 1),
    ({}, 0, 1), (("and",), 0, 1), (b"and", 0, 1), (0, "and", 1), ("and", 0, [1]), ("less", (0,), 1), ("or", None, 1),
    (mock.ANY, 0, 1), ("and", mock.ANY, 1)]
