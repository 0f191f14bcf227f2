"""Rooms and fitting in words of their own, over plain lists of the marks of pages."""

import random

from wholepages.bitmaps import Bitmap
from wholepages.hints import Hint


def kind(marks):
    return {(0,): "blank", (1,): "whole"}.get(tuple(set(marks)), "exact")


def chunks_of(shape):
    """The pages of each chunk."""
    return [[page for page in range(shape.pages) if page // shape.chunk == chunk]
            for chunk in range(-(-shape.pages // shape.chunk))]


def entries(pages, chunk):
    """The entries of a chunk, for the marks of all pages and the pages of the chunk."""
    kinds = [kind(pages[page]) for page in chunk]
    return sum([one == "exact" for one in kinds]) + ("whole" in kinds)


def size(pages, shape):
    return sum([entries(pages, chunk) for chunk in chunks_of(shape)])


def forgotten(pages, some):
    return [(1,) * len(marks) if page in some else tuple(marks) for page, marks in enumerate(pages)]


def fitted(many, shape, room):
    """The marks of the hints fitted to the room, by a plain reading of [24]; None for NoRoom."""
    many = [list(pages) for pages in many]
    while sum([size(pages, shape) for pages in many]) > room:
        most, number, chunk = 0, None, None
        for at, pages in enumerate(many):
            for some in chunks_of(shape):
                if entries(pages, some) > most:
                    most, number, chunk = entries(pages, some), at, some
        if most < 2:
            return None
        exact = [page for page in chunk if kind(many[number][page]) == "exact"]
        many[number] = forgotten(many[number], exact)
    return many


def least_room(many, shape):
    """The number of pairs of a hint and a chunk in which the hint has a page that is not blank."""
    return sum([any([kind(pages[page]) != "blank" for page in chunk]) for pages in many for chunk in chunks_of(shape)])


def pages_of(hint):
    """The marks of all pages of a hint."""
    return list(hint.bitmap)


def drawn_hint(draw, shape, predicate=("<", 0, 5)):
    """A hint, true of nothing in particular, with many blank and whole pages."""
    rows = [draw.choice([[0] * shape.slots, [1] * shape.slots] + [
        [draw.randrange(3) for _ in range(shape.slots)] for _ in range(3)]) for _ in range(shape.pages)]
    return Hint(predicate, Bitmap(shape, rows))


def drawing(seed):
    return random.Random(seed)
