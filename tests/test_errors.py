import unittest

from wholepages import errors

WITHOUT_FIELD = ["BadShape", "OtherShape", "TableFull", "BadMarks"]
FIELDS = {
    "NoPlace": "place", "BadRow": "row", "SlotTaken": "address", "EmptySlot": "address",
    "BadPredicate": "predicate", "TooWide": "boxes", "Contradiction": "marks",
    "BadTree": "tree", "TooMany": "many", "NoRoom": "offered", "NoName": "name",
    "NameTaken": "name", "BadDeed": "deed", "Refused": "number",
}


class TheErrors(unittest.TestCase):
    def test_the_base_class_is_a_value_error(self):
        self.assertEqual(errors.PagesError.__bases__, (ValueError,))

    def test_each_class_is_a_direct_subclass_of_the_base_class(self):
        for name in WITHOUT_FIELD + list(FIELDS):
            with self.subTest(name):
                self.assertEqual(getattr(errors, name).__bases__, (errors.PagesError,))

    def test_there_are_no_other_errors(self):
        defined = [name for name, worth in vars(errors).items() if isinstance(worth, type)]
        self.assertEqual(sorted(defined), sorted(["PagesError"] + WITHOUT_FIELD + list(FIELDS)))

    def test_a_field_holds_the_value_itself(self):
        for name, field in FIELDS.items():
            for value in [object(), [1, [2]], (2, 0), None, 5, "x", True]:
                with self.subTest(name, value=value):
                    raised = getattr(errors, name)(value)
                    self.assertIs(getattr(raised, field), value)
                    self.assertEqual(list(vars(raised)), [field])

    def test_a_field_is_required(self):
        for name in FIELDS:
            with self.subTest(name), self.assertRaises(TypeError):
                getattr(errors, name)()

    def test_classes_without_a_field_have_none(self):
        for name in WITHOUT_FIELD:
            with self.subTest(name):
                self.assertEqual(vars(getattr(errors, name)("why")), {})

    def test_each_is_caught_as_the_base_class(self):
        for name in WITHOUT_FIELD + list(FIELDS):
            with self.subTest(name), self.assertRaises(errors.PagesError):
                raise getattr(errors, name)("x")
