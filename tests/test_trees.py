import itertools
import unittest

from tests.growing import NO_TREES, meaning, mark_for, numbers_in, trees_of, truths_for
from tests.samples import agrees_with, refused, refused_with
from wholepages.bitmaps import Bitmap
from wholepages.errors import BadPredicate, BadTree, OtherShape, TooMany
from wholepages.hints import Hint
from wholepages.shapes import Shape
from wholepages.tables import Table
from wholepages.trees import check_plan, check_tree, tree_hint, tree_mark, tree_truth

SMALL = [(count, tree) for count in (1, 2, 3) for nodes in (1, 3, 5) for tree in trees_of(nodes, count)]
# Every tree of seven nodes over two base hints, and some over three and four.
LARGE = [(2, tree) for tree in trees_of(7, 2)] + [(3, tree) for tree in trees_of(7, 3)[::97]] + [
    (4, tree) for tree in trees_of(7, 4)[::173] + [("and", ("or", 0, 1), ("less", 2, 3)),
                                                   ("less", 3, ("or", 2, ("and", 1, 0)))]]
CHAIN = ("or", ("less", ("and", 0, 1), 0), 1)
SHAPE = Shape(2, 2, columns=1)
ROWS = [(3,), (None,), (9,), (6,)]
BASES = [("<", 0, 5), ("missing", 0), ("untrue", (">", 0, 5))]


class CheckingTrees(unittest.TestCase):
    def test_trees(self):
        for count, tree in SMALL + LARGE:
            self.assertIsNone(check_tree(tree, count))
            self.assertIsNone(check_tree(tree, count + 1))

    def test_numbers(self):
        for count in (1, 2, 4, 9):
            for number in range(count):
                check_tree(number, count)
                check_tree(("less", number, count - 1), count)
            for bad in (-1, -count, count, count + 1, True, False, None, "0", 0.0):
                refused_with(self, BadTree, "tree", bad, check_tree, bad, count)

    def test_no_base_hint(self):
        for bad in (0, -1, ("and", 0, 0), None):
            refused_with(self, BadTree, "tree", bad, check_tree, bad, 0)

    def test_at_most_seven_nodes(self):
        # A tree has an odd number of nodes, so the next one has nine.
        for tree in [("and", CHAIN, 1), ("or", 0, CHAIN), ("less", ("and", ("or", 0, 1), 0), ("and", 1, 0))]:
            refused_with(self, BadTree, "tree", tree, check_tree, tree, 2)
        longer = CHAIN
        for _ in range(20):
            longer = ("and", longer, longer)
            refused_with(self, BadTree, "tree", longer, check_tree, longer, 2)

    def test_values_that_are_no_tree(self):
        for bad in NO_TREES:
            for tree in (bad, ("and", bad, 0), ("or", 1, bad), ("less", 0, ("and", bad, 1)),
                         ("less", ("or", 1, ("and", 0, bad)), 1)):
                with self.subTest(tree=tree):
                    refused_with(self, BadTree, "tree", tree, check_tree, tree, 2)

    def test_a_bad_number_deep_within_a_tree(self):
        for number in (2, -1, True):
            tree = ("or", 0, ("and", 1, ("less", 0, number)))
            refused_with(self, BadTree, "tree", tree, check_tree, tree, 2)


class CheckingPlans(unittest.TestCase):
    def test_plans(self):
        for plan in ([], [0], [0, 0], [CHAIN] * 4, [0, ("and", 0, 1), ("or", 1, 1), CHAIN]):
            self.assertIsNone(check_plan(plan, 2))
        check_plan([], 0)
        check_plan([0, 1, 2, 3], 4)

    def test_too_many_comes_first(self):
        for plan in ([0] * 5, [None] * 5, [CHAIN] * 9, [0, 0, 0, 0, "bad"]):
            raised = refused(self, TooMany, check_plan, plan, 2)
            self.assertEqual([raised.many, list(vars(raised))], [len(plan), ["many"]])

    def test_the_first_value_that_is_no_tree(self):
        for bad in NO_TREES:
            for plan in ([bad], [0, bad], [bad, ("and", 0)], [0, 1, ("or", 0, 1), bad], [CHAIN, bad, None, 7]):
                refused_with(self, BadTree, "tree", bad, check_plan, plan, 2)
        deep = ("and", 0, ("or", 1, 2))
        refused_with(self, BadTree, "tree", deep, check_plan, [0, deep], 2)

    def test_the_plan_stays(self):
        plan = [0, ("and", 0, 1)]
        check_plan(plan, 2)
        self.assertEqual(plan, [0, ("and", 0, 1)])


class TruthsAndMarks(unittest.TestCase):
    def test_truths(self):
        for count, tree in SMALL + LARGE:
            asked = meaning(tree)
            for truths in itertools.product([False, True], repeat=count):
                expected = asked(truths)
                self.assertIs(tree_truth(tree, list(truths)), expected)
                self.assertIs(tree_truth(tree, truths), expected)

    def test_marks(self):
        for count, tree in SMALL + LARGE:
            asked = meaning(tree)
            numbers = numbers_in(tree)
            for marks in itertools.product((0, 1, 2), repeat=count):
                mark = tree_mark(tree, list(marks))
                self.assertEqual(tree_mark(tree, marks), mark)
                values = [asked(truths) for truths in truths_for(marks)]
                self.assertTrue(all([agrees_with(value, mark) for value in values]))
                if len(set(numbers)) == len(numbers):
                    self.assertEqual(mark, mark_for(values), (tree, marks))

    def test_marks_join_from_the_leaves(self):
        for marks, expected in [((1, 1), [1, 1, 1]), ((2, 1), [1, 2, 1]), ((1, 2), [1, 2, 0]), ((0, 1), [0, 1, 0]),
                                ((2, 2), [2, 2, 0]), ((2, 0), [0, 2, 2]), ((0, 0), [0, 0, 0]), ((1, 0), [0, 1, 1])]:
            self.assertEqual([tree_mark((word, 0, 1), marks) for word in ("and", "or", "less")], expected)
        # A number that stands twice: the mark need not be exact.
        self.assertEqual([tree_mark(("or", 0, ("less", 1, 0)), (1, 2)), tree_mark(("less", 0, 0), [1])], [1, 1])

    def test_what_is_passed_stays(self):
        truths, marks = [True, False], [2, 1]
        tree_truth(CHAIN, truths)
        tree_mark(CHAIN, marks)
        self.assertEqual([truths, marks], [[True, False], [2, 1]])


def predicate_of(tree, predicates):
    """The predicate that the joined hint should have."""
    if isinstance(tree, int):
        return predicates[tree]
    left, right = predicate_of(tree[1], predicates), predicate_of(tree[2], predicates)
    return {"and": ("both", left, right), "or": ("either", left, right),
            "less": ("both", left, ("untrue", right))}[tree[0]]


class Hints(unittest.TestCase):
    def base_hints(self):
        table = Table.of(SHAPE, ROWS)
        exact = [Hint.exact(predicate, table) for predicate in BASES]
        return table, [exact[0].touched((0, 1)), exact[1].forgotten(1), exact[2].touched((1, 0))]

    def test_joined_hints(self):
        table, hints = self.base_hints()
        for count, tree in SMALL:
            found = tree_hint(tree, hints)
            self.assertIs(found.__class__, Hint)
            self.assertEqual(found.predicate, predicate_of(tree, BASES))
            self.assertEqual(found.wrong_at(table), [])
            for address in SHAPE.addresses():
                marks = [hint.bitmap.mark(address) for hint in hints]
                self.assertEqual(found.bitmap.mark(address), tree_mark(tree, marks))
            again = tree_hint(tree, tuple(hints))
            self.assertEqual([again.predicate, list(again.bitmap)], [found.predicate, list(found.bitmap)])

    def test_the_hints_stay(self):
        _, hints = self.base_hints()
        before = [(hint.predicate, list(hint.bitmap)) for hint in hints]
        given = list(hints)
        tree_hint(("or", ("less", 0, 1), ("and", 2, 2)), hints)
        self.assertTrue(all([one is other for one, other in zip(hints, given)]))
        self.assertEqual([(hint.predicate, list(hint.bitmap)) for hint in hints], before)

    def test_errors_in_their_order(self):
        long = ("both", *[("<", 0, 5)] * 13)
        # The hint 2 is of another shape; two of the hints 0 and 1 joined have more than 16 nodes.
        hints = [Hint(long, Bitmap.filled(SHAPE, 1)), Hint(("untrue", ("untrue", ("<", 0, 5))), Bitmap.filled(SHAPE, 0)),
                 Hint(("both",), Bitmap.filled(Shape(2, 2, chunk=2, columns=1), 2)),
                 Hint(("either",), Bitmap.filled(SHAPE, 1))]
        self.assertEqual(tree_hint(("and", 0, 3), hints).predicate, ("both", long, ("either",)))
        wide = {("and", 0, 1): ("both", long, hints[1].predicate), ("or", 1, 0): ("either", hints[1].predicate, long),
                ("less", 0, 3): ("both", long, ("untrue", ("either",))),
                ("less", 3, 0): ("both", ("either",), ("untrue", long))}
        for bad, predicate in wide.items():
            for tree in (bad, ("and", bad, 3), ("and", bad, ("and", 3, 2)), ("and", 3, bad), ("less", bad, ("or", 0, 0)),
                         ("or", ("and", bad, ("less", 2, 3)), 2), ("or", ("or", 3, 1), bad)):
                raised = refused(self, BadPredicate, tree_hint, tree, hints)
                self.assertEqual([raised.predicate, list(vars(raised))], [predicate, ["predicate"]])
            for tree in (("and", ("or", 2, 3), bad), ("less", ("and", ("or", 2, 3), bad), 3), ("and", ("or", 3, 2), bad),
                         ("and", 3, ("less", ("and", 0, 2), bad))):
                refused(self, OtherShape, tree_hint, tree, hints)
        for word in ("and", "or", "less"):
            # Of the two that are joined, the shapes are looked at first.
            refused(self, OtherShape, tree_hint, (word, ("and", 0, 3), 2), hints)
            refused(self, OtherShape, tree_hint, (word, 2, ("and", 0, 3)), hints)
