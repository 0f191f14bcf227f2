"""Orders between plans: which plans make needless tests, on any table at all."""

from itertools import combinations

from wholepages.judges import all_agree
from wholepages.limits import check_many
from wholepages.marks import IN, MAYBE, OUT
from wholepages.trees import check_plan, tree_mark, tree_truth
from wholepages.worlds import worlds


def mark_lists(count, *, exact=False):
    """Go through all tuples of this many marks, in lexicographic order; with exact those without MAYBE."""
    marks = (OUT, IN) if exact else (OUT, MAYBE, IN)
    found = [()]
    for _ in range(count):
        found = [(*start, mark) for start in found for mark in marks]
    yield from found


def undecided(plan, marks, known):
    """Tell whether the plan leaves the query open at these marks of the base hints, for the known worlds."""
    joined_marks = [tree_mark(tree, marks) for tree in plan]
    left = [truths[-1] for truths, row in known
            if all_agree([tree_truth(tree, truths) for tree in plan], joined_marks)]
    return True in left and False in left


def first_dearer(first, second, known, lists):
    """Return the first tuple of marks at which the first plan costs more, with the row of a world, or None."""
    for marks in lists:
        rows = [row for truths, row in known if all_agree(truths, marks)]
        if rows and undecided(first, marks, known) and not undecided(second, marks, known):
            return (marks, rows[0])
    return None


def costs_more(first, second, predicates, query, *, columns=2, exact=False):
    """Return where the first plan tests a row that the second one does not, as (marks, row), or None."""
    count = len(predicates)
    check_many(count)
    check_plan(first, count)
    check_plan(second, count)
    known = worlds([*predicates, query], columns=columns)
    lists = list(mark_lists(count, exact=exact))
    return first_dearer(first, second, known, lists)


def least_plan(predicates, query, *, columns=2, exact=False):
    """Return the shortest list of base hints that never costs more than keeping all of them apart."""
    count = len(predicates)
    check_many(count)
    known = worlds([*predicates, query], columns=columns)
    lists = list(mark_lists(count, exact=exact))
    apart = list(range(count))
    for length in range(count):
        for chosen in combinations(apart, length):
            if first_dearer(list(chosen), apart, known, lists) is None:
                return list(chosen)
    return apart
