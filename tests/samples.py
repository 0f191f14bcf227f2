"""Values that several tests take, and one way to look at a refusal."""

import itertools

from wholepages.shapes import Shape

# Values of many kinds, none of which is an integer, an address or a predicate.
ODD_VALUES = [
    None, True, False, 1.0, "", "1", b"1", [], {}, set(), object(), (), [1], (1,),
    ((0, 0),), (0, 0, 0), [0, 0], ([0], 0), (0, [0]), ({}, set()), (None, 0), (0, None),
    (True, 0), (0, False), (0.0, 0), ("0", "0"), "00", {0: 0, 1: 1}, range(2),
]


def refused(test, error, call, *values, **more):
    """Call, check that exactly this error is raised, and return it."""
    with test.assertRaises(error) as caught:
        call(*values, **more)
    test.assertEqual(caught.exception.__class__, error)
    return caught.exception


def refused_with(test, error, field, value, call, *values, **more):
    """As refused; check, too, that the error's one field has the value itself."""
    raised = refused(test, error, call, *values, **more)
    test.assertEqual(list(vars(raised)), [field])
    test.assertIs(getattr(raised, field), value)


def every_mark(shape):
    """Go through all lists of rows of marks for a shape, which should be small."""
    many = shape.pages * shape.slots
    for marks in itertools.product((0, 1, 2), repeat=many):
        yield [marks[start:start + shape.slots] for start in range(0, many, shape.slots)]


def other_shapes(shape):
    """Return the shapes that differ from a shape in one integer alone."""
    given = {name: getattr(shape, name) for name in Shape.__slots__}
    changed = [dict(given, **{name: given[name] + step}) for name in given for step in (-1, 1)]
    # An integer that becomes 0 is none of a shape.
    return [Shape(one.pop("pages"), one.pop("slots"), **one) for one in changed if 0 not in one.values()]


def agrees_with(value, mark):
    """Tell whether a truth value agrees with a mark, in words of its own."""
    return {0: value is False, 1: True, 2: value is True}[mark]
