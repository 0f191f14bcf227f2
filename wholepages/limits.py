"""How many hints, predicates, trees or names are taken at once."""

from wholepages.errors import TooMany

MOST = 4


def check_many(many):
    """Raise TooMany if this is more than are taken at once."""
    if many > MOST:
        raise TooMany(many)
