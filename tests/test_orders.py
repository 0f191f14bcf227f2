import inspect
import itertools
import random
import unittest

from tests.growing import NO_TREES, meaning, trees_of
from tests.samples import agrees_with, refused, refused_with
from wholepages.bitmaps import Bitmap
from wholepages.errors import BadPredicate, BadTree, TooMany, TooWide
from wholepages.hints import Hint
from wholepages.orders import costs_more, least_plan, mark_lists, undecided
from wholepages.predicates import holds
from wholepages.scans import scan
from wholepages.shapes import Shape
from wholepages.tables import Table
from wholepages.trees import tree_hint, tree_mark
from wholepages.worlds import worlds

# Lists of predicates with a query, over two columns.
CASES = [
    ([("<", 0, 5), ("<", 0, 7)], ("<", 0, 5)), ([("<", 0, 5), ("<", 0, 7)], ("both", (">=", 0, 5), ("<", 0, 7))),
    ([("<", 0, 5), (">", 1, 4)], ("both", ("<", 0, 5), (">", 1, 4))), ([("missing", 0), ("<", 0, 5)], ("<", 0, 9)),
    ([("<", 0, 5)], ("untrue", ("<", 0, 5))), ([("<", 0, 5), ("<", 0, 5)], ("<", 0, 5)), ([], ("<", 0, 5)),
    ([("both",), ("<", 1, 3)], ("either", ("<", 1, 3), ("missing", 0))), ([("<", 0, 5)], ("both",)),
    ([("<", 0, 3), ("<", 0, 5), ("<", 0, 7)], ("both", (">=", 0, 3), ("<", 0, 7))),
    ([("<", 0, 5), ("missing", 1), ("untrue", (">", 0, 2))], ("either", ("missing", 1), ("<", 0, 3)))]
PLANS = [[], [0], [1], [0, 1], [1, 0, 0], [("and", 0, 1)], [("or", 0, 1)], [("less", 0, 1)], [("less", 1, 0), 0],
         [("and", 0, 1), ("or", 0, 1)], [("less", 0, 0)], [("or", ("and", 0, 1), ("less", 0, 1))],
         [("and", ("or", 0, 1), ("less", 1, 0)), 1], [0, 1, ("and", 0, 1), ("or", 0, 1)]]
WIDE = [("both", *[("=", column, 2 * number) for number in range(8)]) for column in range(2)]
NO_PREDICATES = [None, 5, ["<", 0, 5], ("<", 2, 5), ("missing", True), ("both", *[("both",)] * 16)]


def plans_over(count):
    """The plans of PLANS that are plans over this many base hints, and keeping these apart."""
    return [plan for plan in PLANS if all([number < count for number in numbers_of(plan)])] + [list(range(count))]


def numbers_of(plan):
    return [int(text) for text in str(plan) if text.isdigit()]


def is_undecided(plan, marks, known):
    """A plain reading of [21]."""
    joined = [tree_mark(tree, marks) for tree in plan]
    found = set()
    for truths, _ in known:
        if all([agrees_with(meaning(tree)(truths[:-1]), mark) for tree, mark in zip(plan, joined)]):
            found.add(truths[-1])
    return found == {False, True}


def dearer(first, second, predicates, query, columns=2, exact=False):
    """A plain reading of [22]."""
    known = worlds([*predicates, query], columns=columns)
    for marks in itertools.product((0, 2) if exact else (0, 1, 2), repeat=len(predicates)):
        agreeing = [row for truths, row in known
                    if all([agrees_with(value, mark) for value, mark in zip(truths, marks)])]
        if agreeing and is_undecided(first, marks, known) and not is_undecided(second, marks, known):
            return (marks, agreeing[0])
    return None


def least(predicates, query, columns=2, exact=False):
    """A plain reading of [23]."""
    apart = list(range(len(predicates)))
    lists = [list(chosen) for length in range(len(apart) + 1) for chosen in itertools.combinations(apart, length)]
    return [plan for plan in lists if dearer(plan, apart, predicates, query, columns, exact) is None][0]


def hints_with(predicates, marks, shape):
    """Base hints that have these marks everywhere."""
    return [Hint(predicate, Bitmap.filled(shape, mark)) for predicate, mark in zip(predicates, marks)]


def run(table, hints, plan, query):
    return scan(table, [tree_hint(tree, hints) for tree in plan], query)


class MarkLists(unittest.TestCase):
    def test_all_tuples_in_lexicographic_order(self):
        for count in range(5):
            every = list(itertools.product((0, 1, 2), repeat=count))
            self.assertEqual(list(mark_lists(count)), every)
            self.assertEqual(list(mark_lists(count, exact=False)), every)
            self.assertEqual(list(mark_lists(count, exact=True)), list(itertools.product((0, 2), repeat=count)))
            self.assertEqual(every, sorted(every))

    def test_a_generator(self):
        self.assertTrue(inspect.isgenerator(mark_lists(2)))
        self.assertEqual([list(mark_lists(0)), list(mark_lists(0, exact=True))], [[()], [()]])
        self.assertIs(next(mark_lists(2)).__class__, tuple)

    def test_more_marks_than_hints_that_are_taken(self):
        self.assertEqual([len(list(mark_lists(6))), len(list(mark_lists(6, exact=True)))], [729, 64])


class Undecided(unittest.TestCase):
    def test_a_plain_reading(self):
        for predicates, query in CASES:
            known = worlds([*predicates, query])
            for plan in plans_over(len(predicates)):
                for marks in itertools.product((0, 1, 2), repeat=len(predicates)):
                    expected = is_undecided(plan, marks, known)
                    self.assertIs(undecided(plan, marks, known), expected)
                    self.assertIs(undecided(plan, list(marks), known), expected)

    def test_all_small_trees(self):
        for predicates, query in CASES[:3]:
            known = worlds([*predicates, query])
            for tree in [tree for nodes in (1, 3, 5) for tree in trees_of(nodes, 2)]:
                for marks in itertools.product((0, 1, 2), repeat=2):
                    self.assertIs(undecided([tree], marks, known), is_undecided([tree], marks, known))

    def test_the_empty_plan_and_no_known_world(self):
        for query, expected in ((("<", 0, 5), True), (("both",), False), (("either",), False)):
            self.assertIs(undecided([], (), worlds([query])), expected)
        self.assertIs(undecided([], (), []), False)
        self.assertIs(undecided([0], (1,), []), False)

    def test_the_worlds_need_not_agree_with_the_marks(self):
        # At (2, 0) the or is IN, so both queries are possible, though no world agrees with the marks themselves.
        known = worlds([("<", 0, 5), ("<", 0, 7), ("<", 0, 5)], columns=1)
        self.assertEqual([undecided([("or", 0, 1)], (2, 0), known), undecided([0, 1], (2, 0), known)], [True, False])

    def test_running_a_plan_tests_just_the_undecided_addresses(self):
        draw = random.Random(3)
        shape = Shape(4, 4)
        for predicates, query in CASES:
            known = worlds([*predicates, query])
            for plan in plans_over(len(predicates)):
                rows = [draw.choice([row for _, row in known] + [None]) for _ in range(16)]
                table = Table.of(shape, rows)
                hints = [Hint.exact(predicate, table) for predicate in predicates]
                hints = [hint.forgotten(*[page for page in range(4) if draw.random() < 0.3]) for hint in hints]
                hints = [hint.touched(draw.choice(shape.addresses())) for hint in hints]
                expected = [address for address, _ in table.walk()
                            if undecided(plan, [hint.bitmap.mark(address) for hint in hints], known)]
                self.assertEqual(run(table, hints, plan, query).tested, expected)

    def test_what_is_passed_stays(self):
        known, plan, marks = worlds([("<", 0, 5), ("<", 0, 7)]), [0, ("and", 0, 0)], [1]
        undecided(plan, marks, known)
        self.assertEqual([known, plan, marks], [worlds([("<", 0, 5), ("<", 0, 7)]), [0, ("and", 0, 0)], [1]])


class CostsMore(unittest.TestCase):
    def test_the_examples(self):
        two, query = [("<", 0, 5), ("<", 0, 7)], ("<", 0, 5)
        self.assertEqual(costs_more([("and", 0, 1)], [0, 1], two, query, columns=1), ((2, 1), (4,)))
        self.assertIs(costs_more([0, 1], [("and", 0, 1)], two, query), None)
        self.assertIs(costs_more([("and", 0, 1)], [0, 1], two, query, exact=True), None)

    def test_a_plain_reading(self):
        for predicates, query in CASES:
            plans = plans_over(len(predicates))
            for first, second in itertools.product(plans, repeat=2):
                for exact in (False, True):
                    with self.subTest(predicates=predicates, first=first, second=second, exact=exact):
                        self.assertEqual(costs_more(first, second, predicates, query, exact=exact),
                                         dearer(first, second, predicates, query, exact=exact))
                self.assertEqual(costs_more(first, second, predicates, query, exact=False),
                                 costs_more(first, second, predicates, query))

    def test_the_told_row(self):
        told = 0
        for predicates, query in CASES:
            plans = plans_over(len(predicates))
            for first, second in itertools.product(plans, repeat=2):
                for exact in (False, True):
                    found = costs_more(first, second, predicates, query, exact=exact)
                    if found is not None:
                        told += 1
                        marks, row = found
                        self.assertEqual([found.__class__, marks.__class__, row.__class__], [tuple] * 3)
                        self.assertFalse(exact and 1 in marks)
                        shape = Shape(1, 1)
                        table = Table.of(shape, [row])
                        hints = hints_with(predicates, marks, shape)
                        self.assertEqual([hint.wrong_at(table) for hint in hints], [[]] * len(hints))
                        self.assertEqual([run(table, hints, plan, query).tested for plan in (first, second)],
                                         [[(0, 0)], []])
        self.assertGreater(told, 100)

    def test_none_speaks_of_all_tables(self):
        draw = random.Random(4)
        shape = Shape(3, 4)
        for predicates, query in CASES:
            plans = plans_over(len(predicates))
            rows = [row for _, row in worlds([*predicates, query])] + [None]
            for first, second in itertools.product(plans, repeat=2):
                for exact in (False, True):
                    if costs_more(first, second, predicates, query, exact=exact) is None:
                        table = Table.of(shape, [draw.choice(rows) for _ in range(12)])
                        hints = [Hint.exact(predicate, table) for predicate in predicates]
                        if not exact:
                            hints = [hint.forgotten(draw.randrange(3)).touched((0, draw.randrange(4)))
                                     for hint in hints]
                        tested = [run(table, hints, plan, query).tested for plan in (first, second)]
                        self.assertLessEqual(set(tested[0]), set(tested[1]))

    def test_keeping_the_base_hints_apart_never_costs_more(self):
        for predicates, query in CASES:
            apart = list(range(len(predicates)))
            for plan in plans_over(len(predicates)) + [[tree] for tree in trees_of(3, len(apart)) + trees_of(5, len(apart))]:
                for exact in (False, True):
                    self.assertIs(costs_more(apart, plan, predicates, query, exact=exact), None)

    def test_plans_that_cannot_be_run(self):
        long = ("both", *[("<", 0, 5)] * 12)
        predicates, query = [long, ("<", 0, 7)], ("<", 0, 5)
        plan = [("and", ("and", 0, 1), 0)]
        shape = Shape(1, 1)
        refused(self, BadPredicate, run, Table(shape), hints_with(predicates, (1, 1), shape), plan, query)
        for first, second in ((plan, [0, 1]), ([0, 1], plan), (plan, []), ([], plan), (plan, plan)):
            for exact in (False, True):
                self.assertEqual(costs_more(first, second, predicates, query, exact=exact),
                                 dearer(first, second, predicates, query, exact=exact))
        self.assertEqual(costs_more(plan, [0, 1], predicates, query), ((2, 1), (4, None)))

    def test_each_column_count(self):
        for columns in (1, 2, 3):
            predicates = [("<", columns - 1, 5), ("<", columns - 1, 7)]
            found = costs_more([], [0], predicates, predicates[0], columns=columns)
            self.assertEqual(found, ((0, 0), (None,) * columns))
            self.assertEqual(costs_more([("and", 0, 1)], [0, 1], predicates, predicates[0], columns=columns),
                             ((2, 1), (None,) * (columns - 1) + (4,)))
            self.assertEqual(least_plan(predicates, ("<", columns - 1, 5), columns=columns, exact=True), [0])
        for call in (lambda predicate: costs_more([], [], [predicate], ("both",)),
                     lambda predicate: least_plan([predicate], ("both",)),
                     lambda predicate: costs_more([], [], [], predicate, columns=1 + predicate[1] // 2),
                     lambda predicate: least_plan([], predicate, columns=1 + predicate[1] // 2)):
            refused(self, BadPredicate, call, ("missing", 2))
            call(("missing", 0))

    def test_no_base_hint(self):
        for query in (("<", 0, 5), ("both",), ("either",)):
            self.assertIs(costs_more([], [], [], query), None)

    def test_four_base_hints(self):
        predicates = [("<", 0, number) for number in (2, 4, 6, 8)]
        for query in (("both", (">=", 0, 4), ("<", 0, 8)), ("<", 0, 6)):
            for first, second in [([("or", 0, ("less", 3, 1))], [1, 3]), ([0, 3], [1, 2]), ([], [0, 1, 2, 3]),
                                  ([("less", 3, 1)], [0, 1, 2, 3]), ([("and", ("or", 0, 1), ("or", 2, 3))], [2])]:
                for exact in (False, True):
                    self.assertEqual(costs_more(first, second, predicates, query, exact=exact),
                                     dearer(first, second, predicates, query, exact=exact))

    def test_what_is_passed_stays(self):
        first, second, predicates = [("and", 0, 1)], [0, 1], [("<", 0, 5), ("<", 0, 7)]
        costs_more(first, second, predicates, ("<", 0, 5))
        found = least_plan(predicates, ("<", 0, 5))
        self.assertEqual([first, second, predicates], [[("and", 0, 1)], [0, 1], [("<", 0, 5), ("<", 0, 7)]])
        found.clear()
        self.assertEqual(least_plan(predicates, ("<", 0, 5)), [0, 1])


class LeastPlans(unittest.TestCase):
    def test_the_examples(self):
        two, query = [("<", 0, 5), ("<", 0, 7)], ("<", 0, 5)
        self.assertEqual([least_plan(two, query), least_plan(two, query, exact=True)], [[0, 1], [0]])

    def test_a_plain_reading(self):
        more = [([("<", 0, 5), ("untrue", ("<", 0, 5)), ("<", 0, 5)], ("<", 0, 5)),
                ([("<", 1, 5), ("<", 0, 5), ("missing", 0), ("<", 0, 9)], ("<", 0, 5)),
                ([("<", 0, 9), ("<", 1, 5), (">=", 0, 3), ("missing", 1)], ("both", ("<", 0, 9), (">=", 0, 3))),
                ([("both",), ("either",), ("missing", 1), ("missing", 1)], ("untrue", ("missing", 1)))]
        for predicates, query in CASES + more:
            for exact in (False, True):
                found = least_plan(predicates, query, exact=exact)
                self.assertEqual(found, least(predicates, query, exact=exact))
                self.assertIs(found.__class__, list)

    def test_the_lexicographically_first_of_several(self):
        for exact in (False, True):
            same = [("missing", 1), ("<", 0, 5), ("<", 0, 5), ("untrue", ("untrue", ("<", 0, 5)))]
            # Without MAYBE each one of the equal hints is enough; with it each may know what the others do not.
            self.assertEqual(least_plan(same, ("<", 0, 5), exact=exact), [1] if exact else [1, 2, 3])

    def test_the_empty_plan(self):
        for exact in (False, True):
            self.assertEqual(least_plan([("<", 0, 5), ("<", 1, 5)], ("both",), exact=exact), [])
            self.assertEqual(least_plan([], ("<", 0, 5), exact=exact), [])
            self.assertEqual(least_plan([("<", 1, 5)], ("<", 0, 5), exact=exact), [])


class Refusals(unittest.TestCase):
    def test_too_many_predicates_first(self):
        for many in (5, 6, 9):
            for call in (lambda given: costs_more([None] * 5, "bad", given, "bad"), lambda given: least_plan(given, "bad")):
                for predicate in (("both",), "bad"):
                    raised = refused(self, TooMany, call, [predicate] * many)
                    self.assertEqual([raised.many, list(vars(raised))], [many, ["many"]])

    def test_the_plans_next(self):
        bad_predicates = ["bad", ("<", 0, 5)]
        for many in (5, 7):
            self.assertEqual(refused(self, TooMany, costs_more, [9] * many, [9] * 8, bad_predicates, "bad").many, many)
            self.assertEqual(refused(self, TooMany, costs_more, [0], [9] * many, bad_predicates, "bad").many, many)
        for bad in NO_TREES:
            refused_with(self, BadTree, "tree", bad, costs_more, [0, bad], [9] * 5, bad_predicates, "bad")
            refused_with(self, BadTree, "tree", bad, costs_more, [0], [1, bad, 9], bad_predicates, "bad")
        number = 1
        refused_with(self, BadTree, "tree", number, costs_more, [], [0, number], [("both",)], ("both",))
        refused_with(self, BadTree, "tree", number, costs_more, [0, number], [], [("both",)], ("both",))

    def test_predicates_next_and_the_query_last(self):
        for bad in NO_PREDICATES:
            for call in (lambda given, query: costs_more([0], [0], given, query), least_plan):
                refused_with(self, BadPredicate, "predicate", bad, call, [("both",), bad, "bad"], "worse")
                refused_with(self, BadPredicate, "predicate", bad, call, [*WIDE], bad)
                refused_with(self, BadPredicate, "predicate", bad, call, [("both",)], bad)
            refused_with(self, BadPredicate, "predicate", bad, costs_more, [], [], [], bad)
            refused_with(self, BadPredicate, "predicate", bad, least_plan, [], bad)

    def test_too_wide(self):
        for call in (lambda given, query: costs_more([], [], given, query), least_plan):
            raised = refused(self, TooWide, call, WIDE, ("both",))
            self.assertEqual([raised.boxes, list(vars(raised))], [18 * 18, ["boxes"]])
            self.assertEqual(refused(self, TooWide, call, [WIDE[0]], WIDE[1]).boxes, 18 * 18)
        self.assertEqual(refused(self, TooWide, least_plan, [], ("both", *WIDE[0][1:8], *WIDE[1][1:9])).boxes, 16 * 18)
