"""Trees and plans: how base hints, their marks and their truth values are joined."""

from wholepages.errors import BadTree
from wholepages.integers import is_between
from wholepages.limits import check_many
from wholepages.marks import both_mark, either_mark, less_mark

WORDS = ("and", "or", "less")
MOST_NODES = 7


def is_joining(value):
    """Tell whether a value is a tree that joins two others, if these are trees."""
    if not isinstance(value, tuple) or len(value) != 3:
        return False
    return isinstance(value[0], str) and value[0] in WORDS


def check_tree(tree, count):
    """Raise BadTree for every value that is not a tree over this many base hints."""
    nodes = 0
    waiting = [tree]
    # A loop that ends with one node too many also ends soon on values of any depth.
    while waiting:
        node = waiting.pop()
        nodes += 1
        if is_joining(node):
            waiting.extend([node[1], node[2]])
        elif not is_between(node, 0, count - 1):
            raise BadTree(tree)
        if nodes > MOST_NODES:
            raise BadTree(tree)


def check_plan(plan, count):
    """Raise TooMany above four trees, and BadTree for the first value that is not a tree."""
    check_many(len(plan))
    for tree in plan:
        check_tree(tree, count)


def joined_truth(word, t, u):
    """Return two truth values joined by the word."""
    if word == "and":
        return t and u
    if word == "or":
        return t or u
    return t and not u


def joined_mark(word, a, b):
    """Return two marks joined by the word."""
    if word == "and":
        return both_mark(a, b)
    if word == "or":
        return either_mark(a, b)
    return less_mark(a, b)


def joined_hint(word, h, k):
    """Return two hints joined by the word."""
    if word == "and":
        return h & k
    if word == "or":
        return h | k
    return h - k


def joined(tree, given, joining):
    """Return what the tree makes of what each base hint has; joining joins two of these by a word."""
    if isinstance(tree, int):
        return given[tree]
    word, left, right = tree
    first = joined(left, given, joining)
    second = joined(right, given, joining)
    return joining(word, first, second)


def tree_truth(tree, truths):
    """Return the joined truth value, for the truth values of the base hints."""
    return joined(tree, truths, joined_truth)


def tree_mark(tree, marks):
    """Return the joined mark, for the marks of the base hints."""
    return joined(tree, marks, joined_mark)


def tree_hint(tree, hints):
    """Return the joined hint, for the base hints."""
    return joined(tree, hints, joined_hint)
