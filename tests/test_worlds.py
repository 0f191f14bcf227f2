import itertools
import unittest

from tests.samples import refused_with, refused
from wholepages.errors import BadPredicate, TooWide
from wholepages.predicates import holds, truth
from wholepages.standins import numbers_of, stand_in
from wholepages.worlds import boxes, combine, parting_row, worlds

MOST = 10 ** 18
LOW = ("both", ("<", 0, 5), ("missing", 1))
LISTS = [
    [], [("both",)], [("either",)], [("<", 0, 5)], [("<", 0, 5), ("<", 0, 7)], [("missing", 1)], [LOW, ("=", 1, 3)],
    [("untrue", LOW), ("negation", LOW), LOW], [("either", ("=", 0, 2), ("!=", 1, 2)), ("negation", ("=", 0, 3))],
    [("<", 0, 3), (">", 0, 3)], [("=", 0, 1), ("=", 0, 1)],
    [("both", ("either", (">=", 0, 2), ("missing", 0)), ("untrue", (">", 1, 6)))],
]


def column_of(many):
    """A list of predicates with so many numbers, no two of them neighbours, in column 0."""
    return [("<", 0, 2 * number) for number in range(many)]


class Combine(unittest.TestCase):
    def test_all_tuples_in_order(self):
        for choices in [[], [[1, 2, 3]], [[1, 2], [3]], [[2, 1], [None, 0], [5, 4, 6]], [["a"], [(1,), [2]]]]:
            self.assertEqual(combine(choices), list(itertools.product(*choices)))

    def test_no_list(self):
        self.assertEqual(combine([]), [()])

    def test_an_empty_list_among_others(self):
        for choices in [[[]], [[], [1, 2]], [[1, 2], []], [[1], [], [2]], [[0] * 300, []], [[], [0] * 300],
                        [[0] * 100] * 50 + [[]]]:
            self.assertEqual(combine(choices), [])

    def test_equal_items(self):
        self.assertEqual(combine([[1, 1], [2, 2]]), [(1, 2)] * 4)
        self.assertEqual(combine([[1, 2, 1]]), [(1,), (2,), (1,)])

    def test_as_many_as_may_be(self):
        for choices in [[list(range(256))], [[1, 2]] * 8, [list(range(16))] * 2, [[0]] * 40 + [[0, 1]] * 8]:
            self.assertEqual(combine(choices), list(itertools.product(*choices)))
            self.assertEqual(len(combine(choices)), 256)

    def test_too_many(self):
        for choices, many in [([list(range(257))], 257), ([[1, 2]] * 9, 512), ([[0] * 257, [0]], 257),
                              ([[0] * 100] * 50, 100 ** 50), ([[0] * 16, [0] * 17], 272)]:
            raised = refused(self, TooWide, combine, choices)
            self.assertEqual([raised.boxes, list(vars(raised))], [many, ["boxes"]])

    def test_arguments_stay_and_what_returns_may_be_changed(self):
        choices = [[1, 2], [3]]
        combine(choices).clear()
        combine([[1, 2]]).append(5)
        self.assertEqual([combine(choices), choices], [[(1, 3), (2, 3)], [[1, 2], [3]]])


class Boxes(unittest.TestCase):
    def test_in_order(self):
        self.assertEqual(boxes([("<", 0, 5), ("=", 1, 3)]),
                         [(first, second) for first in (None, 4, 5, 6) for second in (None, 2, 3, 4)])

    def test_no_predicate(self):
        self.assertEqual(boxes([]), [(None, None), (None, 0), (0, None), (0, 0)])
        self.assertEqual(boxes([], columns=1), [(None,), (0,)])
        self.assertEqual(boxes([], columns=3), list(itertools.product([None, 0], repeat=3)))

    def test_columns_that_no_predicate_mentions(self):
        self.assertEqual(boxes([("=", 1, 1)], columns=3),
                         [(first, second, third) for first in (None, 0) for second in (None, 0, 1, 2)
                          for third in (None, 0)])

    def test_columns_left_out(self):
        self.assertEqual(boxes([("=", 0, 1)]), boxes([("=", 0, 1)], columns=2))
        self.assertEqual({len(box) for box in boxes([("=", 0, 1)])}, {2})
        with self.assertRaises(TypeError):
            boxes([("=", 0, 1)], 2)

    def test_the_numbers_of_all_predicates(self):
        deep = [("untrue", ("both", ("=", 0, 1), ("negation", ("=", 0, 2)))), ("<", 0, 4)]
        self.assertEqual(boxes(deep, columns=1), [(None,), (0,), (1,), (2,), (3,), (4,), (5,)])

    def test_as_many_as_may_be(self):
        neighbours = [("=", 0, number) for number in range(253)]
        self.assertEqual(boxes(neighbours, columns=1), [(None,)] + [(value,) for value in range(-1, 254)])
        self.assertEqual(len(boxes(column_of(63))), 256)

    def test_too_many(self):
        wide = [(sign, column, 2 * number) for column in range(3) for number in range(400) for sign in ("<", ">")]
        for call in (boxes, worlds):
            for predicates, columns, many in [
                    ([("=", 0, number) for number in range(254)], 1, 257), (column_of(64), 2, 260),
                    (column_of(63), 3, 512), (wide, 3, 802 ** 3)]:
                raised = refused(self, TooWide, call, predicates, columns=columns)
                self.assertEqual([raised.boxes, list(vars(raised))], [many, ["boxes"]])

    def test_the_first_value_that_is_no_predicate(self):
        bad = ["<", 0, 5]
        for call in (boxes, worlds):
            for predicates in ([bad], [LOW, bad, "worse"], column_of(300) + [bad], [bad] + column_of(300)):
                refused_with(self, BadPredicate, "predicate", bad, call, predicates)
            other = ("missing", 1)
            refused_with(self, BadPredicate, "predicate", other, call, [("missing", 0), other], columns=1)
            third = ("both", ("missing", 2))
            refused_with(self, BadPredicate, "predicate", third, call, [LOW, third])
            call([LOW, third], columns=3)

    def test_a_row_and_its_box_have_the_same_truths(self):
        values = [None, -MOST, MOST] + list(range(-1, 10))
        for predicates in LISTS:
            numbers = [numbers_of(predicates, column) for column in range(2)]
            found = boxes(predicates)
            for row in itertools.product(values, repeat=2):
                box = tuple([stand_in(value, numbers[at]) for at, value in enumerate(row)])
                self.assertIn(box, found)
                self.assertEqual([truth(one, row) for one in predicates], [truth(one, box) for one in predicates])

    def test_arguments_stay_and_what_returns_may_be_changed(self):
        predicates = [("<", 0, 5)]
        kept = boxes(predicates)
        boxes(predicates).clear()
        self.assertEqual([boxes(predicates), predicates], [kept, [("<", 0, 5)]])


class Worlds(unittest.TestCase):
    def test_the_example(self):
        self.assertEqual(worlds([("<", 0, 5), ("<", 0, 7)], columns=1),
                         [((False, False), (None,)), ((True, True), (4,)), ((False, True), (5,))])

    def test_no_predicate(self):
        self.assertEqual(worlds([]), [((), (None, None))])
        self.assertEqual(worlds([], columns=1), [((), (None,))])

    def test_columns_that_no_predicate_mentions(self):
        self.assertEqual(worlds([("missing", 1)], columns=3), [((True,), (None, None, None)), ((False,), (None, 0, None))])

    def test_columns_left_out(self):
        self.assertEqual(worlds([LOW]), [((False,), (None, None)), ((True,), (4, None))])

    def test_truths_are_false_where_a_truth_is_unknown(self):
        self.assertEqual(worlds([("<", 0, 1), ("negation", ("<", 0, 1))], columns=1)[0], ((False, False), (None,)))

    def test_each_world_once_with_its_first_box(self):
        for predicates in LISTS:
            expected = []
            for box in boxes(predicates):
                truths = tuple([holds(predicate, box) for predicate in predicates])
                if truths not in [world for world, _ in expected]:
                    expected.append((truths, box))
            self.assertEqual(worlds(predicates), expected)
            for world, _ in worlds(predicates):
                self.assertTrue(all([value is True or value is False for value in world]))

    def test_they_are_the_truths_of_all_rows(self):
        values = [None, -MOST, MOST] + list(range(-1, 10))
        for predicates in LISTS:
            found = {tuple([holds(one, row) for one in predicates]) for row in itertools.product(values, repeat=2)}
            self.assertEqual({world for world, _ in worlds(predicates)}, found)

    def test_arguments_stay_and_what_returns_may_be_changed(self):
        predicates = [("<", 0, 5)]
        kept = worlds(predicates)
        worlds(predicates).clear()
        self.assertEqual([worlds(predicates), predicates], [kept, [("<", 0, 5)]])


class PartingRow(unittest.TestCase):
    def test_the_examples(self):
        self.assertEqual([parting_row(("<", 0, 7), ("<", 0, 5)), parting_row(("<", 0, 5), ("<", 0, 7))],
                         [(5, None), None])

    def test_the_first_box(self):
        for first, second in itertools.permutations([LOW, ("missing", 1), ("both",), ("<", 0, 7), ("=", 1, 3)], 2):
            found = [box for box in boxes([first, second]) if holds(first, box) and not holds(second, box)]
            self.assertEqual(parting_row(first, second), found[0] if found else None)

    def test_an_unknown_truth_does_not_hold(self):
        self.assertEqual(parting_row(("both",), ("either", ("<", 0, 5), (">=", 0, 5)), columns=1), (None,))
        self.assertEqual(parting_row(("negation", ("<", 0, 5)), ("either",), columns=1), (5,))
        self.assertIs(parting_row(("negation", ("<", 0, 5)), (">=", 0, 5), columns=1), None)

    def test_equal_predicates_and_those_that_never_hold(self):
        self.assertIs(parting_row(LOW, LOW), None)
        self.assertIs(parting_row(("either",), LOW), None)
        self.assertEqual(parting_row(("both",), ("either",), columns=3), (None, None, None))

    def test_refusals(self):
        bad = ("missing", 2)
        refused_with(self, BadPredicate, "predicate", bad, parting_row, bad, "worse")
        refused_with(self, BadPredicate, "predicate", bad, parting_row, LOW, bad)
        self.assertEqual(parting_row(bad, LOW, columns=3), (None, None, None))
        many = ("both", *[("<", 0, 2 * number) for number in range(15)])
        others = ("both", *[("<", 1, 2 * number) for number in range(15)])
        raised = refused(self, TooWide, parting_row, many, others)
        self.assertEqual(raised.boxes, 32 * 32)
        refused_with(self, BadPredicate, "predicate", bad, parting_row, ("both", many[1]), bad)
