import unittest

from tests.samples import ODD_VALUES, refused, refused_with
from wholepages.errors import BadShape, NoPlace
from wholepages.shapes import Shape

GREATEST = {"pages": 16, "slots": 8, "chunk": 16, "columns": 3}
NO_INTEGERS = [value for value in ODD_VALUES if not isinstance(value, int)] + [True, False]


def made(**changed):
    given = dict({"pages": 3, "slots": 2, "chunk": 2, "columns": 2}, **changed)
    return Shape(given["pages"], given["slots"], chunk=given["chunk"], columns=given["columns"])


class MakingShapes(unittest.TestCase):
    def test_fields(self):
        shape = Shape(5, 4, chunk=3, columns=1)
        self.assertEqual([shape.pages, shape.slots, shape.chunk, shape.columns], [5, 4, 3, 1])

    def test_chunk_and_columns_may_be_left_out(self):
        self.assertEqual([Shape(5, 4).chunk, Shape(5, 4).columns], [4, 2])
        self.assertEqual([Shape(5, 4, chunk=1).columns, Shape(5, 4, columns=3).chunk], [2, 4])

    def test_chunk_and_columns_are_passed_by_keyword(self):
        with self.assertRaises(TypeError):
            Shape(5, 4, 3)

    def test_slots_of_the_class(self):
        self.assertEqual(tuple(Shape.__slots__), ("pages", "slots", "chunk", "columns"))
        self.assertFalse(hasattr(made(), "__dict__"))

    def test_class_values(self):
        for values in (Shape, made()):
            self.assertEqual([values.MOST_PAGES, values.MOST_SLOTS], [16, 8])
            self.assertEqual([values.MOST_CHUNK, values.MOST_COLUMNS], [16, 3])

    def test_each_integer_at_its_ends(self):
        for field, most in GREATEST.items():
            for value in (1, most):
                self.assertEqual(getattr(made(**{field: value}), field), value)

    def test_each_integer_beyond_its_ends(self):
        for field, most in GREATEST.items():
            for value in (0, -1, most + 1, 10 ** 20, -10 ** 20):
                with self.subTest(field, value=value):
                    refused(self, BadShape, made, **{field: value})

    def test_each_integer_of_another_kind(self):
        for field in GREATEST:
            for value in NO_INTEGERS:
                with self.subTest(field, value=value):
                    refused(self, BadShape, made, **{field: value})


class Chunks(unittest.TestCase):
    def test_a_last_chunk_that_is_full(self):
        shape = Shape(6, 1, chunk=3)
        self.assertEqual(shape.chunks, 2)
        self.assertEqual([shape.chunk_of(page) for page in range(6)], [0, 0, 0, 1, 1, 1])
        self.assertEqual([shape.pages_of(0), shape.pages_of(1)], [[0, 1, 2], [3, 4, 5]])

    def test_a_last_chunk_that_is_not_full(self):
        shape = Shape(7, 1, chunk=3)
        self.assertEqual(shape.chunks, 3)
        self.assertEqual([shape.chunk_of(page) for page in range(7)], [0, 0, 0, 1, 1, 1, 2])
        self.assertEqual(shape.pages_of(2), [6])

    def test_a_chunk_that_is_greater_than_the_shape(self):
        shape = Shape(2, 1, chunk=16)
        self.assertEqual([shape.chunks, shape.pages_of(0), shape.chunk_of(1)], [1, [0, 1], 0])

    def test_all_shapes(self):
        for pages in range(1, 17):
            for chunk in range(1, 17):
                shape = Shape(pages, 1, chunk=chunk)
                groups = [shape.pages_of(number) for number in range(shape.chunks)]
                self.assertEqual(sum(groups, []), list(range(pages)))
                self.assertTrue(all([0 < len(group) <= chunk for group in groups]))
                self.assertEqual([len(group) for group in groups[:-1]], [chunk] * (len(groups) - 1))
                for number, group in enumerate(groups):
                    self.assertEqual([shape.chunk_of(page) for page in group], [number] * len(group))

    def test_values_that_are_no_page(self):
        shape = Shape(6, 1, chunk=3)
        for value in NO_INTEGERS + [-1, 6, 10 ** 20]:
            with self.subTest(value=value):
                refused_with(self, NoPlace, "place", value, shape.chunk_of, value)

    def test_values_that_are_no_chunk(self):
        shape = Shape(6, 1, chunk=3)
        for value in NO_INTEGERS + [-1, 2, 10 ** 20]:
            with self.subTest(value=value):
                refused_with(self, NoPlace, "place", value, shape.pages_of, value)


class Addresses(unittest.TestCase):
    def test_all_in_order(self):
        self.assertEqual(Shape(2, 3).addresses(), [(0, 0), (0, 1), (0, 2), (1, 0), (1, 1), (1, 2)])
        self.assertEqual(Shape(1, 1).addresses(), [(0, 0)])
        self.assertEqual(len(Shape(16, 8).addresses()), 128)

    def test_addresses_of_the_shape_are_in_it(self):
        shape = Shape(3, 2)
        for address in shape.addresses():
            self.assertIs(address in shape, True)

    def test_other_addresses_are_not(self):
        shape = Shape(3, 2)
        for address in [(3, 0), (0, 2), (-1, 0), (0, -1), (2, 3), (10 ** 20, 0)]:
            self.assertIs(address in shape, False)

    def test_values_of_other_kinds_are_not(self):
        for value in ODD_VALUES + [0, 1, -1]:
            with self.subTest(value=value):
                self.assertIs(value in Shape(3, 2), False)

    def test_true_and_false_make_no_address(self):
        for value in [(True, 0), (0, True), (False, 0), (0, False), (1, True)]:
            self.assertIs(value in Shape(3, 2), False)

    def test_a_returned_list_may_be_changed(self):
        shape = Shape(3, 2, chunk=2)
        shape.addresses().clear()
        shape.pages_of(0).append(9)
        self.assertEqual([len(shape.addresses()), shape.pages_of(0)], [6, [0, 1]])
        self.assertIs((0, 0) in shape, True)
