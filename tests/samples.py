"""Values that several tests take, and one way to look at a refusal."""

# Values of many kinds, none of which is an integer, an address or a predicate.
ODD_VALUES = [
    None, True, False, 1.0, "", "1", b"1", [], {}, set(), object(), (), [1], (1,),
    ((0, 0),), (0, 0, 0), [0, 0], ([0], 0), (0, [0]), ({}, set()), (None, 0), (0, None),
    (True, 0), (0, False), (0.0, 0), ("0", "0"), "00", {0: 0, 1: 1}, range(2),
]


def refused(test, error, call, *values, **more):
    """Call, check that exactly this error is raised, and return it."""
    with test.assertRaises(error) as caught:
        call(*values, **more)
    test.assertEqual(caught.exception.__class__, error)
    return caught.exception


def refused_with(test, error, field, value, call, *values, **more):
    """As refused; check, too, that the error's one field has the value itself."""
    raised = refused(test, error, call, *values, **more)
    test.assertEqual(list(vars(raised)), [field])
    test.assertIs(getattr(raised, field), value)
