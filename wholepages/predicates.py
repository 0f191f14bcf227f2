"""Predicates: conditions on a row, whose truth is True, False or None (unknown)."""

from wholepages.errors import BadPredicate
from wholepages.integers import GREATEST, is_between

SIGNS = ("<", "<=", "=", "!=", ">=", ">")
MOST_NODES = 16


def is_node(value, columns):
    """Tell whether a value is a predicate for the columns if its parts are predicates."""
    if not isinstance(value, tuple) or len(value) == 0 or not isinstance(value[0], str):
        return False
    word = value[0]
    if word in SIGNS:
        return (len(value) == 3 and is_between(value[1], 0, columns - 1)
                and is_between(value[2], 1 - GREATEST, GREATEST - 1))
    if word == "missing":
        return len(value) == 2 and is_between(value[1], 0, columns - 1)
    if word == "negation" or word == "untrue":
        return len(value) == 2
    return word == "both" or word == "either"


def parts_of(predicate):
    """Return the tuple of the parts of a predicate, which is empty for one without parts."""
    if predicate[0] in SIGNS or predicate[0] == "missing":
        return ()
    return predicate[1:]


def check_predicate(predicate, *, columns=2):
    """Raise BadPredicate for every value that is not a predicate for the columns."""
    nodes = 0
    waiting = [predicate]
    # A loop that ends with one node too many also ends soon on values of any depth.
    while waiting:
        node = waiting.pop()
        nodes += 1
        if nodes > MOST_NODES or not is_node(node, columns):
            raise BadPredicate(predicate)
        waiting.extend(list(parts_of(node)))


def count_nodes(predicate):
    """Return the number of nodes of the predicate."""
    return 1 + sum([count_nodes(part) for part in parts_of(predicate)])


def comparisons_of(predicate):
    """Return the list of the comparisons in the predicate, at any depth."""
    if predicate[0] in SIGNS:
        return [predicate]
    return [found for part in parts_of(predicate) for found in comparisons_of(part)]


def compares(value, sign, number):
    """Tell whether an integer compares with the number as the sign says."""
    if sign == "<":
        return value < number
    if sign == "<=":
        return value <= number
    if sign == "=":
        return value == number
    if sign == "!=":
        return value != number
    if sign == ">=":
        return value >= number
    return value > number


def comparison_truth(value, sign, number):
    """Return the truth of a comparison for the value in its column."""
    if value is None:
        return None
    return compares(value, sign, number)


def both_truth(truths):
    """Return the truth of "both" for the truths of its parts."""
    if False in truths:
        return False
    return None if None in truths else True


def either_truth(truths):
    """Return the truth of "either" for the truths of its parts."""
    if True in truths:
        return True
    return None if None in truths else False


def negation_truth(part):
    """Return the truth of "negation" for the truth of its part."""
    return None if part is None else not part


def truth(predicate, row):
    """Return the truth of the predicate for the row: True, False or None."""
    word = predicate[0]
    if word in SIGNS:
        return comparison_truth(row[predicate[1]], word, predicate[2])
    if word == "missing":
        return row[predicate[1]] is None
    truths = [truth(part, row) for part in parts_of(predicate)]
    if word == "both":
        return both_truth(truths)
    if word == "either":
        return either_truth(truths)
    if word == "negation":
        return negation_truth(truths[0])
    return truths[0] is not True


def holds(predicate, row):
    """Tell whether the predicate holds for the row: whether its truth is True."""
    return truth(predicate, row) is True


def describe(predicate):
    """Return the predicate as a text."""
    word = predicate[0]
    if word in SIGNS:
        return f"c{predicate[1]} {word} {predicate[2]}"
    if word == "missing":
        return f"c{predicate[1]} missing"
    inner = ", ".join([describe(part) for part in parts_of(predicate)])
    return f"{word}({inner})"
