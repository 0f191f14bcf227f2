"""Names of indexes and of kept hints: the checks of a dict that has names as its keys."""

from wholepages.errors import NameTaken, NoName


def check_free(name, named):
    """Raise NameTaken if something has the name already."""
    if name in named:
        raise NameTaken(name)


def check_name(name, named):
    """Raise NoName if nothing has the name."""
    if name not in named:
        raise NoName(name)
