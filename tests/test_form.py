"""The form of the program: where the interface is defined, and what can be seen of the language's rules."""

import ast
import inspect
import os
import unittest

from redopages import backups, errors, images, judge, kinds, logs, redo, store, waits

PACKAGE = os.path.dirname(errors.__file__)

# For each file the functions of the interface, and the classes with the methods that it lists for them.
FUNCTIONS = {
    kinds: {"page_text": "(page)"},
    waits: {"joined": "(*lots)"},
    store: {"crash_run": "(log, waits, disk)", "crash_states": "(log, waits)"},
    redo: {"history": "(log, contents)", "redo": "(log, disk, contents)", "check": "(log, disk, contents)"},
    judge: {"dangers": "(catalog)", "live": "(catalog, waits)", "exposed": "(catalog, waits)",
            "wrong_run": "(catalog, waits)", "least_waits": "(catalog)", "sticking_log": "(catalog, waits)"},
    images: {"with_images": "(catalog, slots)", "cheapest_images": "(catalog, sizes)",
             "images_price": "(log, slots, sizes)"},
    backups: {"backup_order": "(catalog, waits)", "wrong_backup": "(catalog, waits, order)"},
}
CLASSES = {
    kinds: {
        "Role": {"__init__": "(self, name, group)", "reads": "(self)", "makes": "(self)", "derived": "(self)",
                 "words": "(self)", "imaged": "(self)"},
        "Kind": {"__init__": "(self, name, roles)", "role_named": "(self, name)", "pairs": "(self)"},
        "Catalog": {"__init__": "(self, kinds)", "__len__": "(self)", "__iter__": "(self)", "named": "(self, name)",
                    "groups": "(self)", "made_groups": "(self)"},
        "Read": {}, "Made": {}, "Fresh": {}, "Both": {}, "Renewed": {},
    },
    waits: {
        "Waits": {"__init__": "(self, rows)", "__len__": "(self)", "__iter__": "(self)",
                  "__contains__": "(self, row)", "__eq__": "(self, other)", "__or__": "(self, other)",
                  "__and__": "(self, other)", "__sub__": "(self, other)", "within": "(self, other)",
                  "require": "(self, catalog)", "after": "(self, kind, role)", "reach": "(self, kind, role)",
                  "blocked": "(self, kind, role)"},
    },
    logs: {
        "Contents": {"__init__": "(self)", "__len__": "(self)", "number_of": "(self, formula)",
                     "formula": "(self, number)", "text": "(self, number, *, depth=2)"},
        "Step": {"__init__": "(self, number, kind, pages)", "page_at": "(self, role)", "read_pages": "(self)",
                 "made_pages": "(self)", "__call__": "(self, state)"},
        "Log": {"__init__": "(self, catalog)", "__len__": "(self)", "__iter__": "(self)",
                "__getitem__": "(self, number)", "do": "(self, kind, pages)", "versions": "(self, page)",
                "version_at": "(self, page, number)", "all_pages": "(self)", "lines": "(self)"},
    },
    store: {
        "Disk": {"__init__": "(self)", "__getitem__": "(self, page)", "__setitem__": "(self, page, version)",
                 "__contains__": "(self, page)", "__len__": "(self)", "__eq__": "(self, other)",
                 "stamped": "(self)", "copied": "(self)"},
        "Store": {"__init__": "(self, catalog, waits)", "do": "(self, kind, pages)", "blockers": "(self, page)",
                  "flush": "(self, page)", "ready": "(self)", "stuck": "(self)",
                  "play": "(self, events, *, at=None)", "crash": "(self)"},
    },
    redo: {
        "State": {"__init__": "(self, log, disk, contents)", "stamp_of": "(self, page)",
                  "content_of": "(self, page)", "put": "(self, page, stamp, content)"},
    },
    images: {
        "Price": {"__init__": "(self, size, images)", "__add__": "(self, other)", "__mul__": "(self, other)",
                  "__rmul__": "(self, other)", "__eq__": "(self, other)", "__lt__": "(self, other)"},
    },
    backups: {
        "Backup": {"__init__": "(self, store, order)", "take": "(self, page)", "advance": "(self)",
                   "copied": "(self)"},
    },
}
PROPERTIES = [(store.Store, "dirty"), (backups.Backup, "current")]

BARRED_NODES = (ast.Global, ast.AsyncFunctionDef, ast.AsyncFor, ast.AsyncWith, ast.Await, ast.Import, ast.Div)


def sources():
    """The names and texts of the files of the package."""
    found = {}
    for name in sorted(os.listdir(PACKAGE)):
        if name != "__pycache__":
            with open(os.path.join(PACKAGE, name), encoding="utf-8") as file:
                found[name] = file.read()
    return found


class Interface(unittest.TestCase):
    def test_functions_are_defined_in_their_files(self):
        for module, functions in FUNCTIONS.items():
            for name, signature in functions.items():
                function = getattr(module, name)
                self.assertEqual(function.__module__, module.__name__)
                self.assertEqual(str(inspect.signature(function)), signature)

    def test_classes_and_their_methods_are_defined_in_their_files(self):
        for module, classes in CLASSES.items():
            for name, methods in classes.items():
                shape = getattr(module, name)
                self.assertEqual(shape.__module__, module.__name__)
                for method, signature in methods.items():
                    with self.subTest(name, method=method):
                        self.assertIn(method, vars(shape))
                        self.assertEqual(str(inspect.signature(vars(shape)[method])), signature)

    def test_properties_are_defined_in_their_classes(self):
        for shape, name in PROPERTIES:
            self.assertIsInstance(vars(shape)[name], property)
            self.assertIsNone(vars(shape)[name].fset)


class Language(unittest.TestCase):
    def test_the_folder_holds_python_files_with_plain_names_only(self):
        for name in sources():
            self.assertRegex(name, r"\A[a-z_][a-z0-9_]*\.py\Z")
        self.assertIn("__init__.py", sources())

    def test_sizes_and_characters(self):
        for name, text in sources().items():
            lines = text.split("\n")
            self.assertLessEqual(len(lines), 400, name)
            for line in lines:
                self.assertLessEqual(len(line), 120, name)
                self.assertTrue(all(" " <= sign <= "~" for sign in line), (name, line))

    def test_functions_have_at_most_forty_lines(self):
        for name, text in sources().items():
            for node in ast.walk(ast.parse(text)):
                if isinstance(node, ast.FunctionDef):
                    self.assertLessEqual(node.end_lineno - node.lineno + 1, 40, (name, node.name))

    def test_imports_come_from_the_package_by_full_names(self):
        for name, text in sources().items():
            for node in ast.walk(ast.parse(text)):
                if isinstance(node, ast.ImportFrom):
                    self.assertEqual(node.level, 0, name)
                    self.assertTrue(node.module.startswith("redopages."), (name, node.module))
                    for alias in node.names:
                        self.assertNotEqual(alias.name, "*", name)

    def test_no_node_or_string_that_is_barred(self):
        for name, text in sources().items():
            for node in ast.walk(ast.parse(text)):
                self.assertNotIsInstance(node, BARRED_NODES, name)
                if isinstance(node, ast.Constant) and isinstance(node.value, str):
                    self.assertNotIn("%", node.value, name)

    def test_a_module_holds_nothing_but_definitions_and_plain_values(self):
        allowed = (ast.ImportFrom, ast.FunctionDef, ast.ClassDef, ast.Assign, ast.Expr)
        for name, text in sources().items():
            for node in ast.parse(text).body:
                self.assertIsInstance(node, allowed, name)
                if isinstance(node, ast.Expr):
                    self.assertIsInstance(node.value, ast.Constant, name)


if __name__ == "__main__":
    unittest.main()
