import itertools
import unittest

from wholepages.marks import IN, MAYBE, OUT, agrees, both_mark, either_mark, less_mark, mark_of, truths_of

MARKS = [0, 1, 2]
PAIRS = list(itertools.product(MARKS, repeat=2))


def agreeing(mark):
    return {0: [False], 1: [False, True], 2: [True]}[mark]


def exact(a, b, join):
    """The mark that all pairs of truth values which agree with a and b leave."""
    joined = {join(t, u) for t in agreeing(a) for u in agreeing(b)}
    return {(True,): 2, (False,): 0}.get(tuple(joined), 1)


class JoiningMarks(unittest.TestCase):
    def test_the_marks(self):
        self.assertEqual([OUT, MAYBE, IN], [0, 1, 2])

    def test_all_pairs(self):
        self.assertEqual([both_mark(a, b) for a, b in PAIRS], [0, 0, 0, 0, 1, 1, 0, 1, 2])
        self.assertEqual([either_mark(a, b) for a, b in PAIRS], [0, 1, 2, 1, 1, 2, 2, 2, 2])
        self.assertEqual([less_mark(a, b) for a, b in PAIRS], [0, 0, 0, 1, 1, 0, 2, 1, 0])

    def test_the_joins_are_exact(self):
        for a, b in PAIRS:
            self.assertEqual(both_mark(a, b), exact(a, b, lambda t, u: t and u))
            self.assertEqual(either_mark(a, b), exact(a, b, lambda t, u: t or u))
            self.assertEqual(less_mark(a, b), exact(a, b, lambda t, u: t and not u))


class Agreeing(unittest.TestCase):
    def test_agrees(self):
        for mark in MARKS:
            for value in (False, True):
                self.assertIs(agrees(value, mark), value in agreeing(mark))

    def test_truths_of(self):
        for mark in MARKS:
            self.assertEqual(truths_of(mark), agreeing(mark))
            truths_of(mark).clear()
            self.assertEqual(truths_of(mark), agreeing(mark))
            self.assertTrue(all([value.__class__ is bool for value in truths_of(mark)]))

    def test_mark_of(self):
        for many in range(1, 5):
            for truths in itertools.product([False, True], repeat=many):
                given = list(truths)
                expected = IN if all(truths) else MAYBE if any(truths) else OUT
                self.assertEqual(mark_of(given), expected)
                self.assertEqual(given, list(truths))

    def test_mark_of_undoes_truths_of(self):
        for mark in MARKS:
            self.assertEqual(mark_of(truths_of(mark)), mark)
