import itertools
import unittest

from tests.samples import agrees_with, refused, refused_with
from wholepages.errors import BadPredicate, Contradiction, TooWide
from wholepages.judges import Judge, rows_mark, rows_pair
from wholepages.predicates import holds
from wholepages.worlds import boxes, worlds

MIDDLE = ("both", (">=", 0, 5), ("<", 0, 9))
VALUES = [None, -10 ** 18, 10 ** 18] + list(range(2, 12))
# Lists of predicates, each with a query as its last item.
LISTS = [
    [("<", 0, 5)],
    [("both",)],
    [("either",)],
    [("<", 0, 7), ("<", 0, 5)],
    [("<", 0, 5), ("<", 0, 9), MIDDLE],
    [("missing", 0), ("missing", 1), ("either", ("missing", 1), ("<", 0, 5))],
    [("both",), ("either",), ("=", 1, 4)],
    [("<", 0, 5), ("untrue", ("<", 0, 5)), ("negation", ("<", 0, 5)), (">=", 0, 5)],
    [("=", 0, 4), ("=", 1, 4), ("either", ("=", 0, 4), ("=", 1, 4))],
    [("<", 0, 5), ("<", 0, 5), ("<", 0, 5)],
    [("<", 0, 3), ("<", 0, 6), ("<", 0, 9), ("missing", 0), ("both", (">=", 0, 3), ("!=", 0, 7))],
]
NO_PREDICATES = [None, 5, ["<", 0, 5], ("<", 2, 5), ("missing", True), ("both", *[("both",)] * 16)]


def agreeing(predicates, marks, rows):
    return [row for row in rows
            if all([agrees_with(holds(one, row), mark) for one, mark in zip(predicates, marks)])]


def all_marks(predicates):
    return list(itertools.product(range(3), repeat=len(predicates)))


class Verdicts(unittest.TestCase):
    def test_the_examples(self):
        judge = Judge([("<", 0, 7)], ("<", 0, 5))
        self.assertEqual([judge([2]), judge([0]), judge.pair([2]), judge.pair([0]), len(judge.allowed([1]))],
                         [1, 0, ((4, None), (5, None)), None, 3])
        apart = Judge([("<", 0, 5)], MIDDLE)
        both = Judge([("<", 0, 5), ("<", 0, 9)], MIDDLE)
        self.assertEqual([apart([0]), apart.pair([0]), both([0, 2])], [1, ((5, None), (None, None)), 2])
        self.assertEqual(refused(self, Contradiction, both, [2, 0]).marks, (2, 0))

    def test_all_marks_by_brute_force_over_the_boxes(self):
        for *predicates, query in LISTS:
            judge = Judge(predicates, query)
            found = boxes([*predicates, query])
            for marks in all_marks(predicates):
                rows = agreeing(predicates, marks, found)
                having = [row for row in rows if holds(query, row)]
                lacking = [row for row in rows if not holds(query, row)]
                with self.subTest(predicates=predicates, query=query, marks=marks):
                    if not rows:
                        self.assertEqual(refused(self, Contradiction, judge, marks).marks, marks)
                        self.assertEqual(refused(self, Contradiction, judge.pair, marks).marks, marks)
                    elif having and lacking:
                        self.assertEqual([judge(marks), judge.pair(marks)], [1, (having[0], lacking[0])])
                    else:
                        self.assertEqual([judge(marks), judge.pair(marks)], [2 if having else 0, None])

    def test_the_boxes_are_enough_to_speak_of_all_rows(self):
        rows = list(itertools.product(VALUES, repeat=2))
        for *predicates, query in LISTS:
            judge = Judge(predicates, query)
            for marks in all_marks(predicates):
                truths = {holds(query, row) for row in agreeing(predicates, marks, rows)}
                if truths:
                    self.assertEqual(judge(marks), {(True,): 2, (False,): 0}.get(tuple(truths), 1))
                else:
                    refused(self, Contradiction, judge, marks)

    def test_allowed(self):
        for *predicates, query in LISTS:
            judge = Judge(predicates, query)
            for marks in all_marks(predicates):
                expected = [(truths, row) for truths, row in worlds([*predicates, query])
                            if all([agrees_with(value, mark) for value, mark in zip(truths[:-1], marks)])]
                self.assertEqual(judge.allowed(marks), expected)
                self.assertEqual(judge.allowed(list(marks)), expected)

    def test_no_world_is_allowed(self):
        judge = Judge([("<", 0, 5), ("<", 0, 9)], MIDDLE)
        self.assertEqual([judge.allowed([2, 0]), judge.allowed((2, 0))], [[], []])

    def test_no_predicate(self):
        for query, verdict, pair in [(("both",), 2, None), (("either",), 0, None),
                                     (("<", 0, 5), 1, ((4, None), (None, None))), (("untrue", ("either",)), 2, None)]:
            judge = Judge([], query)
            for marks in ([], ()):
                self.assertEqual([judge(marks), judge.pair(marks)], [verdict, pair])
                self.assertEqual(judge.allowed(marks), worlds([query]))

    def test_the_marks_of_a_contradiction_are_a_tuple(self):
        judge = Judge([("<", 0, 5), ("<", 0, 9)], MIDDLE)
        for marks in ([2, 0], (2, 0)):
            for call in (judge, judge.pair):
                raised = refused(self, Contradiction, call, marks)
                self.assertEqual([raised.marks, raised.marks.__class__, list(vars(raised))], [(2, 0), tuple, ["marks"]])
        refused(self, Contradiction, Judge([("either",)], ("both",)), [2])
        refused(self, Contradiction, Judge([("both",)], ("both",)), [0])

    def test_the_verdict_stays_or_becomes_maybe(self):
        for *predicates, query in LISTS:
            judge = Judge(predicates, query)
            for marks in all_marks(predicates):
                if judge.allowed(marks):
                    for less in itertools.product(*[{mark, 1} for mark in marks]):
                        self.assertIn(judge(less), (judge(marks), 1))

    def test_many_predicates(self):
        predicates = [("<", 0, number) for number in range(60)]
        judge = Judge(predicates, ("<", 0, 30), columns=1)
        self.assertEqual([judge([0] * 30 + [2] * 30), judge([0] * 30 + [1] * 30), judge([0] * 31 + [1] * 29)], [2, 1, 0])
        self.assertEqual(judge.pair([0] * 30 + [1] * 30), ((29,), (None,)))


class MakingJudges(unittest.TestCase):
    def test_columns(self):
        for columns, pair in ((1, ((4,), (None,))), (2, ((4, None), (None, None))),
                              (3, ((4, None, None), (None, None, None)))):
            self.assertEqual(Judge([], ("<", 0, 5), columns=columns).pair([]), pair)
        self.assertEqual(Judge([], ("<", 0, 5)).pair([]), ((4, None), (None, None)))
        with self.assertRaises(TypeError):
            Judge([], ("<", 0, 5), 2)

    def test_the_columns_of_the_predicates(self):
        bad = ("missing", 2)
        refused_with(self, BadPredicate, "predicate", bad, Judge, [bad], ("both",))
        refused_with(self, BadPredicate, "predicate", bad, Judge, [], bad)
        self.assertEqual(Judge([bad], bad, columns=3)([2]), 2)
        refused_with(self, BadPredicate, "predicate", LISTS[8][1], Judge, LISTS[8][:2], ("both",), columns=1)

    def test_the_first_value_that_is_no_predicate(self):
        for bad in NO_PREDICATES:
            for predicates, query in [([bad], ("both",)), ([bad, "worse"], "worst"), ([("both",), bad], "worse"),
                                      ([], bad), ([("both",), ("missing", 0)], bad)]:
                with self.subTest(predicates=predicates, query=query):
                    refused_with(self, BadPredicate, "predicate", bad, Judge, predicates, query)

    def test_too_wide(self):
        wide = [("=", column, 2 * number) for column in range(2) for number in range(8)]
        self.assertEqual(refused(self, TooWide, Judge, wide, ("both",)).boxes, 18 * 18)
        self.assertEqual(refused(self, TooWide, Judge, wide[:-1], wide[-1]).boxes, 18 * 18)
        self.assertEqual(Judge(wide[:7] + wide[8:15], ("both",))([1] * 14), 2)
        self.assertEqual(refused(self, TooWide, Judge, wide[:7] + wide[8:15], wide[-1]).boxes, 16 * 18)

    def test_bad_predicate_comes_before_too_wide(self):
        wide = [("=", column, 2 * number) for column in range(2) for number in range(40)]
        for bad in NO_PREDICATES:
            refused_with(self, BadPredicate, "predicate", bad, Judge, wide + [bad], "worse")
            refused_with(self, BadPredicate, "predicate", bad, Judge, wide, bad)


class Lists(unittest.TestCase):
    def test_lists_that_were_passed_in_may_be_changed(self):
        predicates = [("<", 0, 7)]
        judge = Judge(predicates, ("<", 0, 5))
        self.assertEqual(predicates, [("<", 0, 7)])
        predicates.clear()
        marks = [2]
        judge(marks)
        judge.pair(marks)
        judge.allowed(marks)
        self.assertEqual([judge(marks), marks], [1, [2]])

    def test_lists_that_were_returned_may_be_changed(self):
        judge = Judge([("<", 0, 7)], ("<", 0, 5))
        kept = list(judge.allowed([2]))
        judge.allowed([2]).clear()
        judge.allowed([1]).append("more")
        self.assertEqual([judge.allowed([2]), judge([2]), len(judge.allowed([1]))], [kept, 1, 3])


class Rows(unittest.TestCase):
    def test_no_row(self):
        for predicate in (("both",), ("either",), ("<", 0, 5)):
            for rows in ([], ()):
                self.assertEqual([rows_mark(predicate, rows), rows_pair(predicate, rows)], [0, None])

    def test_one_row(self):
        for row, mark in [((4,), 2), ((5,), 0), ((None,), 0)]:
            self.assertEqual([rows_mark(("<", 0, 5), [row]), rows_pair(("<", 0, 5), [row])], [mark, None])

    def test_several_rows(self):
        for many in range(2, 5):
            for rows in itertools.product([(3, 1), (4, 1), (5, 1), (None, 1)], repeat=many):
                given = list(rows)
                having = [row for row in rows if row[0] in (3, 4)]
                lacking = [row for row in rows if row[0] not in (3, 4)]
                expected = [1, (having[0], lacking[0])] if having and lacking else [2 if having else 0, None]
                self.assertEqual([rows_mark(("<", 0, 5), given), rows_pair(("<", 0, 5), given)], expected)
                self.assertEqual(given, list(rows))
