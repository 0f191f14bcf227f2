"""The form of the package: where the interface is defined, and the plainest rules of the language."""

import ast
import doctest
import pathlib
import unittest

ROOT = pathlib.Path(__file__).resolve().parent.parent
FILES = sorted((ROOT / "wholepages").iterdir())

# For each file the functions, with their parameters, and the classes, with their methods.
FUNCTIONS = {
    "tables": {"check_row": "row, columns"},
    "predicates": {"check_predicate": "predicate, *, columns=2", "count_nodes": "predicate",
                   "truth": "predicate, row", "holds": "predicate, row", "describe": "predicate"},
    "standins": {"numbers_of": "predicates, column", "stand_ins": "numbers", "stand_in": "value, numbers",
                 "within": "numbers, low, high"},
    "worlds": {"combine": "choices", "boxes": "predicates, *, columns=2", "worlds": "predicates, *, columns=2",
               "parting_row": "first, second, *, columns=2"},
    "marks": {"both_mark": "a, b", "either_mark": "a, b", "less_mark": "a, b", "agrees": "value, mark",
              "truths_of": "mark", "mark_of": "truths"},
    "judges": {"rows_mark": "predicate, rows", "rows_pair": "predicate, rows"},
    "scans": {"scan": "table, hints, query"},
    "trees": {"check_tree": "tree, count", "check_plan": "plan, count", "tree_truth": "tree, truths",
              "tree_mark": "tree, marks", "tree_hint": "tree, hints"},
    "orders": {"mark_lists": "count, *, exact=False", "undecided": "plan, marks, known",
               "costs_more": "first, second, predicates, query, *, columns=2, exact=False",
               "least_plan": "predicates, query, *, columns=2, exact=False"},
    "shelves": {"fit": "hints, room"},
    "reports": {"report": "table, hints, scan"},
}
CLASSES = {
    "shapes": {"Shape": {
        "__init__": "self, pages, slots, *, chunk=4, columns=2", "chunks": "self", "chunk_of": "self, page",
        "pages_of": "self, chunk", "addresses": "self", "__contains__": "self, address"}},
    "tables": {"Table": {
        "__init__": "self, shape", "of": "cls, shape, rows", "put": "self, row", "put_at": "self, address, row",
        "take": "self, address", "change": "self, address, row", "row_at": "self, address", "walk": "self",
        "used": "self", "copied": "self", "__contains__": "self, address"}},
    "bitmaps": {"Bitmap": {
        "__init__": "self, shape, rows", "filled": "cls, shape, mark", "mark": "self, address",
        "marks_of": "self, page", "kind": "self, page", "entries": "self, chunk", "size": "self",
        "marked": "self, address, mark", "forgotten": "self, *pages", "tells_all": "self, other",
        "__and__": "self, other", "__or__": "self, other", "__sub__": "self, other",
        "__contains__": "self, address", "__iter__": "self"}},
    "hints": {"Hint": {
        "__init__": "self, predicate, bitmap", "exact": "cls, predicate, table", "size": "self",
        "forgotten": "self, *pages", "touched": "self, address", "wrong_at": "self, table",
        "__and__": "self, other", "__or__": "self, other", "__sub__": "self, other"}},
    "judges": {"Judge": {
        "__init__": "self, predicates, query, *, columns=2", "__call__": "self, marks",
        "allowed": "self, marks", "pair": "self, marks"}},
    "scans": {"Scan": {"tested_pages": "self", "__iter__": "self"}},
    "indexes": {
        "Index": {"__init__": "self, shape", "entered": "self, address, row", "left": "self, address, row",
                  "held": "self", "refresh": "self, table"},
        "PartialIndex": {
            "__init__": "self, shape, predicate", "entered": "self, address, row", "left": "self, address, row",
            "hint": "self, predicate", "pair": "self, address, predicate", "listing": "self"}},
    "columns": {"ColumnIndex": {
        "__init__": "self, shape, column", "entered": "self, address, row", "left": "self, address, row",
        "hint": "self, predicate", "pair": "self, address, predicate", "listing": "self"}},
    "bounds": {"BoundsIndex": {
        "__init__": "self, shape, *, span=1", "entered": "self, address, row", "left": "self, address, row",
        "hint": "self, predicate", "pair": "self, address, predicate", "bounds": "self, page"}},
    "stores": {"Store": {
        "__init__": "self, shape", "put": "self, row", "put_at": "self, address, row", "take": "self, address",
        "change": "self, address, row", "apply": "self, deeds", "table_copy": "self",
        "index_rows": "self, name, predicate", "index_column": "self, name, column",
        "index_bounds": "self, name, *, span=1", "refresh": "self, name", "hint": "self, name, predicate",
        "pair": "self, name, address, predicate"}},
    "shelves": {"Shelf": {
        "__init__": "self, shape, room", "room": "self", "size": "self", "names": "self", "hint": "self, name",
        "keep": "self, name, hint", "drop": "self, name", "forget": "self, name, *pages",
        "touched": "self, *addresses", "resize": "self, room"}},
    "staircases": {"Staircase": {
        "__init__": "self, table, hints, query", "least": "self", "full": "self", "tests": "self, room",
        "choice": "self, room", "__iter__": "self"}},
    "desks": {"Desk": {
        "__init__": "self, shape, *, room=64", "room": "self", "size": "self", "put": "self, row",
        "put_at": "self, address, row", "take": "self, address", "change": "self, address, row",
        "apply": "self, deeds", "table_copy": "self", "index_rows": "self, name, predicate",
        "index_column": "self, name, column", "index_bounds": "self, name, *, span=1", "refresh": "self, name",
        "names": "self", "hint": "self, name", "drop": "self, name", "forget": "self, name, *pages",
        "ask": "self, index, predicate", "pair": "self, index, address, predicate",
        "keep": "self, name, index, predicate", "run": "self, query, *names, plan=None",
        "keep_answer": "self, name, query, *names", "keep_join": "self, name, tree, *names",
        "staircase": "self, query, *names", "resize": "self, room, *, query=None"}},
}


def parsed(name):
    return ast.parse((ROOT / "wholepages" / f"{name}.py").read_text("ascii"))


def defined(body, kind):
    return {node.name: node for node in body if isinstance(node, kind)}


class TheInterface(unittest.TestCase):
    def test_functions_are_defined_in_their_files(self):
        for name, functions in FUNCTIONS.items():
            found = defined(parsed(name).body, ast.FunctionDef)
            for function, parameters in functions.items():
                self.assertEqual(ast.unparse(found[function].args), parameters)

    def test_classes_and_their_methods_are_defined_in_their_files(self):
        for name, classes in CLASSES.items():
            found = defined(parsed(name).body, ast.ClassDef)
            for kind, methods in classes.items():
                own = defined(found[kind].body, ast.FunctionDef)
                for method, parameters in methods.items():
                    self.assertEqual(ast.unparse(own[method].args), parameters)


class TheLanguage(unittest.TestCase):
    def files(self):
        return [(path, path.read_bytes()) for path in FILES if path.name != "__pycache__"]

    def test_the_folder_has_nothing_but_files_of_python(self):
        self.assertEqual({path.suffix for path, _ in self.files()}, {".py"})
        self.assertIn("__init__.py", [path.name for path, _ in self.files()])

    def test_characters_and_sizes(self):
        for path, data in self.files():
            lines = data.decode("ascii").split("\n")
            with self.subTest(path.name):
                self.assertTrue(all([32 <= code < 127 or code == 10 for code in data]))
                self.assertLessEqual(len(lines) - 1, 399)
                self.assertLessEqual(max(map(len, lines)), 120)
                for node in ast.walk(ast.parse(data)):
                    if isinstance(node, ast.FunctionDef):
                        self.assertLessEqual(node.end_lineno - node.lineno + 1, 40, node.name)

    def test_imports(self):
        library = {"heapq", "math", "itertools"}
        for path, data in self.files():
            for node in ast.walk(ast.parse(data)):
                self.assertNotIsInstance(node, ast.Import)
                if isinstance(node, ast.ImportFrom) and node.module not in library:
                    package, name = node.module.split(".")
                    self.assertEqual(package, "wholepages")
                    own = [part.name for part in parsed(name).body
                           if isinstance(part, (ast.FunctionDef, ast.ClassDef))]
                    own += [part.targets[0].id for part in parsed(name).body if isinstance(part, ast.Assign)]
                    self.assertLessEqual({alias.name for alias in node.names}, set(own))


class TheReadme(unittest.TestCase):
    def test_its_examples(self):
        found = doctest.testfile(str(ROOT / "README.md"), module_relative=False)
        self.assertGreater(found.attempted, 0)
        self.assertEqual(found.failed, 0)
