"""Stand-ins: one value for each class of values that the same comparisons hold for."""

from wholepages.predicates import comparisons_of


def numbers_of(predicates, column):
    """Return the ascending list of the numbers that are compared with the column."""
    found = [node for predicate in predicates for node in comparisons_of(predicate)]
    return sorted({node[2] for node in found if node[1] == column})


def class_starts(numbers):
    """Return the ascending list of the least integers of all classes that have one."""
    # A class begins at a number or just above one, whether or not that is the next number.
    return sorted(set(list(numbers) + [number + 1 for number in numbers]))


def stand_ins(numbers):
    """Return the list of the stand-ins of all classes, None first, then ascending."""
    if not numbers:
        return [None, 0]
    return [None, numbers[0] - 1] + class_starts(numbers)


def stand_in(value, numbers):
    """Return the stand-in of the class of None or an integer."""
    if value is None or value in numbers:
        return value
    if not numbers:
        return 0
    lower = [number for number in numbers if number < value]
    return lower[-1] + 1 if lower else numbers[0] - 1


def within(numbers, low, high):
    """Return the ascending list of the least integer from low to high of each class there."""
    return [low] + [start for start in class_starts(numbers) if low < start <= high]
