"""What the program takes for an integer."""

GREATEST = 10 ** 18


def is_between(value, low, high):
    """Tell whether a value, of any kind, is an integer from low to high."""
    # Python counts True and False among the integers; the document does not.
    if isinstance(value, bool) or not isinstance(value, int):
        return False
    return low <= value <= high
