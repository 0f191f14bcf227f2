import itertools
import unittest

from tests.samples import ODD_VALUES, refused_with
from wholepages.errors import BadPredicate
from wholepages.predicates import check_predicate, count_nodes, describe, holds, truth

MOST = 10 ** 18
SIGNS = ["<", "<=", "=", "!=", ">=", ">"]
# For a value below, at and above the number, in the order of the signs.
COMPARED = {
    4: [True, True, False, True, False, False],
    5: [False, True, True, False, True, False],
    6: [False, False, False, True, True, True],
}
# Predicates of one column that are True, False and None for the row (None, 5).
PARTS = {True: ("missing", 0), False: ("missing", 1), None: ("<", 0, 1)}
ROW = (None, 5)
LOW = ("both", ("<", 0, 5), ("missing", 1))


class Truth(unittest.TestCase):
    def test_the_example(self):
        self.assertEqual([truth(LOW, (3, None)), truth(LOW, (7, None)), truth(LOW, (None, None))],
                         [True, False, None])
        self.assertEqual([truth(("untrue", LOW), (None, None)), truth(("negation", LOW), (None, None))],
                         [True, None])
        self.assertIs(truth(("both",), (1, 1)), True)

    def test_comparisons(self):
        for value, truths in COMPARED.items():
            self.assertEqual([truth((sign, 0, 5), (value,)) for sign in SIGNS], truths)
            self.assertEqual([truth((sign, 1, 5), (None, value, 5)) for sign in SIGNS], truths)

    def test_comparisons_with_negative_numbers(self):
        for value, truths in COMPARED.items():
            self.assertEqual([truth((sign, 0, -5), (value - 10,)) for sign in SIGNS], truths)

    def test_comparisons_with_none_are_unknown(self):
        for sign in SIGNS:
            self.assertIs(truth((sign, 0, 0), (None,)), None)
            self.assertIs(truth((sign, 1, 5), (5, None)), None)

    def test_comparisons_at_the_ends(self):
        for number, value, at in [(MOST - 1, MOST, 6), (1 - MOST, -MOST, 4), (MOST - 1, MOST - 1, 5),
                                  (1 - MOST, 1 - MOST, 5), (MOST - 1, MOST - 2, 4), (1 - MOST, 2 - MOST, 6),
                                  (MOST - 1, -MOST, 4), (1 - MOST, MOST, 6), (0, MOST, 6), (0, -MOST, 4)]:
            self.assertEqual([truth((sign, 0, number), (value,)) for sign in SIGNS], COMPARED[at])

    def test_missing(self):
        for value in (0, 5, -5, MOST, -MOST):
            self.assertIs(truth(("missing", 0), (value, None)), False)
        self.assertIs(truth(("missing", 1), (0, None)), True)
        self.assertIs(truth(("missing", 2), (0, None, None)), True)

    def test_parts_are_as_they_are_called(self):
        for value, part in PARTS.items():
            self.assertIs(truth(part, ROW), value)

    def test_both_and_either(self):
        for many in range(5):
            for values in itertools.product([True, False, None], repeat=many):
                parts = [PARTS[value] for value in values]
                both = False if False in values else None if None in values else True
                either = True if True in values else None if None in values else False
                self.assertIs(truth(("both", *parts), ROW), both)
                self.assertIs(truth(("either", *parts), ROW), either)

    def test_both_and_either_without_parts(self):
        self.assertIs(truth(("both",), ROW), True)
        self.assertIs(truth(("either",), ROW), False)

    def test_negation_and_untrue(self):
        for value, opposite, untrue in [(True, False, False), (False, True, True), (None, None, True)]:
            self.assertIs(truth(("negation", PARTS[value]), ROW), opposite)
            self.assertIs(truth(("untrue", PARTS[value]), ROW), untrue)

    def test_nested(self):
        for first, second, third in itertools.product([True, False, None], repeat=3):
            a, b, c = PARTS[first], PARTS[second], PARTS[third]
            inner = True if False in (first, second) else None if None in (first, second) else False
            either = True if True in (inner, third) else None if None in (inner, third) else False
            self.assertIs(truth(("either", ("negation", ("both", a, b)), c), ROW), either)
            self.assertIs(truth(("untrue", ("either", ("negation", ("both", a, b)), c)), ROW), either is not True)
            self.assertIs(truth(("negation", ("untrue", a)), ROW), first is True)
            self.assertIs(truth(("both", ("untrue", a), ("either", b)), ROW),
                          False if first is True or second is False else None if second is None else True)

    def test_sixteen_nodes_deep(self):
        deep = ("<", 0, 5)
        for _ in range(15):
            deep = ("negation", deep)
        self.assertEqual([truth(deep, (4,)), truth(deep, (5,)), truth(deep, (None,))], [False, True, None])

    def test_rows_may_be_lists(self):
        row = [3, None]
        self.assertIs(truth(LOW, row), True)
        self.assertIs(holds(LOW, row), True)
        self.assertEqual(row, [3, None])


class Holds(unittest.TestCase):
    def test_it_holds_if_its_truth_is_true(self):
        for value, part in PARTS.items():
            self.assertIs(holds(part, ROW), value is True)
            self.assertIs(holds(("negation", part), ROW), value is False)
            self.assertIs(holds(("untrue", part), ROW), value is not True)

    def test_comparisons(self):
        for value, truths in COMPARED.items():
            self.assertEqual([holds((sign, 0, 5), (value,)) for sign in SIGNS], truths)
        self.assertEqual([holds((sign, 0, 5), (None,)) for sign in SIGNS], [False] * 6)

    def test_without_parts(self):
        self.assertIs(holds(("both",), (1, 1)), True)
        self.assertIs(holds(("either",), (1, 1)), False)


class CountingAndDescribing(unittest.TestCase):
    def test_nodes(self):
        for predicate, many in [(("<", 0, 5), 1), (("missing", 1), 1), (("both",), 1), (("either",), 1),
                                (("negation", ("both",)), 2), (("untrue", ("missing", 0)), 2), (LOW, 3),
                                (("either", LOW, LOW, ("=", 1, 0)), 8), (("both", *[("both",)] * 15), 16),
                                (("untrue", ("negation", LOW)), 5), (("both", *[("missing", 0)] * 30), 31)]:
            self.assertEqual(count_nodes(predicate), many)

    def test_comparisons(self):
        for sign in SIGNS:
            for column, number in [(0, 5), (1, -3), (2, 0), (0, MOST - 1), (0, 1 - MOST)]:
                self.assertEqual(describe((sign, column, number)), "c" + str(column) + " " + sign + " " + str(number))

    def test_other_kinds(self):
        for predicate, text in [
                (LOW, "both(c0 < 5, c1 missing)"), (("missing", 0), "c0 missing"), (("missing", 2), "c2 missing"),
                (("both",), "both()"), (("either",), "either()"), (("both", ("either",)), "both(either())"),
                (("negation", ("=", 1, 2)), "negation(c1 = 2)"), (("untrue", ("both",)), "untrue(both())"),
                (("either", ("!=", 0, 1), LOW, ("untrue", LOW)),
                 "either(c0 != 1, both(c0 < 5, c1 missing), untrue(both(c0 < 5, c1 missing)))")]:
            self.assertEqual(describe(predicate), text)


def around(part):
    """Predicates, or what would be one, with the part at several depths."""
    return [part, ("both", part), ("either", ("missing", 0), part), ("negation", part), ("untrue", part),
            ("both", ("either", ("missing", 0), ("negation", ("untrue", part))), ("<", 0, 1))]


class CheckingPredicates(unittest.TestCase):
    def accept(self, predicate, **more):
        self.assertIs(check_predicate(predicate, **more), None)

    def refuse(self, predicate, **more):
        refused_with(self, BadPredicate, "predicate", predicate, check_predicate, predicate, **more)

    def test_predicates_of_every_kind(self):
        for part in [("missing", 1), ("both",), ("either",), LOW] + [(sign, 1, -7) for sign in SIGNS]:
            for predicate in around(part):
                self.accept(predicate)

    def test_values_of_other_kinds_at_any_depth(self):
        for value in ODD_VALUES + [0, 5, "both", "missing", ["both"], ["<", 0, 5], ["missing", 0]]:
            for predicate in around(value):
                with self.subTest(predicate=predicate):
                    self.refuse(predicate)

    def test_lists_in_the_place_of_tuples(self):
        for predicate in [["both", ("<", 0, 5)], ("both", [("<", 0, 5)]), ("negation", ["missing", 0])]:
            self.refuse(predicate)

    def test_unknown_words(self):
        for word in ["", "and", "or", "not", "Both", "both ", "==", "<>", "=<", "=>", "<=>", "is", "missing0", "M"]:
            for node in [(word,), (word, 0), (word, 0, 5), (word, ("both",)), (word, ("both",), ("both",))]:
                for predicate in around(node):
                    self.refuse(predicate)

    def test_words_of_other_kinds(self):
        for word in [None, True, 0, b"both", b"<", [], ["both"], ("both",), {}, set(), 1.5]:
            for node in [(word,), (word, 0), (word, 0, 5), (word, ("both",))]:
                self.refuse(node)
                self.refuse(("both", node))

    def test_items_too_many_or_too_few(self):
        part = ("both",)
        for node in [("missing",), ("missing", 0, 0), ("negation",), ("negation", part, part), ("untrue",),
                     ("untrue", part, part), ("missing", 0, part)]:
            for predicate in around(node):
                self.refuse(predicate)
        for sign in SIGNS:
            for node in [(sign,), (sign, 0), (sign, 0, 5, 5), (sign, 0, 5, part)]:
                for predicate in around(node):
                    self.refuse(predicate)

    def test_words_with_items_of_another_word(self):
        for node in [("both", 0), ("both", 0, 5), ("either", 0), ("negation", 0), ("untrue", 0),
                     ("missing", ("both",)), ("<", ("both",), 5), ("<", 0, ("both",)), ("both", ("both",), 0)]:
            for predicate in around(node):
                self.refuse(predicate)

    def test_columns_at_and_beyond_their_ends(self):
        for columns in (1, 2, 3):
            for column in range(columns):
                for node in [("missing", column), ("=", column, 0)]:
                    for predicate in around(node):
                        self.accept(predicate, columns=columns)
            for column in (-1, columns, columns + 1, MOST, -columns):
                for node in [("missing", column), ("=", column, 0)]:
                    for predicate in around(node):
                        self.refuse(predicate, columns=columns)

    def test_columns_left_out(self):
        self.accept(("missing", 1))
        self.accept(("<", 1, 0))
        self.refuse(("missing", 2))
        self.refuse(("<", 2, 0))
        with self.assertRaises(TypeError):
            check_predicate(("missing", 0), 1)

    def test_numbers_at_and_beyond_their_ends(self):
        for sign in SIGNS:
            for number in (MOST - 1, 1 - MOST, 0):
                for predicate in around((sign, 0, number)):
                    self.accept(predicate)
            for number in (MOST, -MOST, MOST + 1, -MOST - 1, 10 ** 30):
                for predicate in around((sign, 0, number)):
                    self.refuse(predicate)

    def test_columns_and_numbers_of_other_kinds(self):
        for value in ODD_VALUES:
            for sign in SIGNS:
                self.refuse((sign, value, 5))
                self.refuse((sign, 0, value))
            self.refuse(("missing", value))
            self.refuse(("both", ("missing", value)))

    def test_sixteen_and_seventeen_nodes(self):
        deep = ("missing", 0)
        for _ in range(15):
            deep = ("untrue", deep)
        halves = ("both", ("either", *[("missing", 0)] * 7), ("both", *[("<", 0, 5)] * 6))
        for predicate in [deep, ("both", *[("missing", 0)] * 15), ("either", *[("both",)] * 15), halves]:
            self.assertEqual(count_nodes(predicate), 16)
            self.accept(predicate)
            self.refuse(("negation", predicate))
            self.refuse(("both", predicate))
            self.refuse(("either", ("both",), predicate))

    def test_many_nodes(self):
        self.refuse(("both", *[("missing", 0)] * 900))
        deep = ("missing", 0)
        for _ in range(49):
            deep = ("either", deep)
        self.refuse(deep)
