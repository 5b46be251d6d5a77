"""The interface of the document: names, arguments, and the files in which they are defined."""

import ast
import inspect
import pathlib
import unittest

from laybeside import (book, bounds, chains, cuts, deeds, desk, errors, fields, joins, kinds, paths, scales, sheets,
                       stretches, strips, texts, ways)

PACKAGE = pathlib.Path(__file__).resolve().parent.parent / "laybeside"

# Each function and class, with its arguments; those behind a star are handed in by name.
ERRORS = {
    "Wrong": "(at)", "NoLetter": "(letter)", "NoNumber": "(number)", "NoPlace": "(at)", "TooLong": "(most)",
    "TooMany": "(most)", "Bare": "(at)", "NoRow": "(at)", "NoName": "(name)", "There": "(name)",
    "NotOne": "(name)", "NoLog": "(at)",
}
PLAIN_ERRORS = ["LayError", "Unlike", "NotBest", "Alone", "Nothing", "NoText", "NoLine"]
KINDS = [
    "is_whole", "is_worth", "is_price", "is_great_worth", "is_great_price", "is_letter", "is_row", "is_name",
    "is_step", "is_path", "is_gapped", "is_side", "are_ends",
]
WHOLE = "(False, False, False, False)"
# Each module's functions with their arguments, and its classes with theirs and those of their methods.
FUNCTIONS = {
    fields: {"field_of": "(over, under, scale)"},
    paths: {
        "fits": "(field, path)", "worth_of_path": f"(field, path, *, ends={WHOLE})",
        "step_worth": f"(field, at, to, step, ahead, *, ends={WHOLE})", "cells_of": "(path)", "runs_of": "(path)",
        "turned_path": "(path)", "gapped": "(over, under, path)", "path_between": "(one, other)",
    },
    bounds: {"is_fair": f"(field, table, *, ends={WHOLE})"},
    stretches: {"within": "(over, under, scale)"},
    cuts: {"cut_way": f"(field, *, ends={WHOLE})"},
    strips: {"strip_way": "(field, *, breadth=2)", "strip_paper": "(field, low, high_edge)"},
    joins: {"joined_all": "(rows, scale)"},
    texts: {
        "show_path": "(path)", "show_laying": "(over, under, path)", "show_scale": "(scale)", "show_joined": "(joined)",
        "read_path": "(text)", "read_laying": "(text)", "read_scale": "(text)", "read_joined": "(text)",
    },
    deeds: {"is_deed": "(thing)", "show_deed": "(deed)", "read_deed": "(text)"},
    book: {"come_up": "(scale, text)"},
}
CLASSES = {
    (scales, "Scale", "(letters, worths, *, opening=3, each=1)"): {
        "letters": "(self)", "worths": "(self)", "worth_of": "(self, one, other)", "opening": "(self)",
        "each": "(self)", "knows": "(self, row)", "turned": "(self)",
    },
    (fields, "Field", "(pairs, over, under, *, opening=0)"): {
        "high": "(self)", "wide": "(self)", "pair": "(self, at, to)", "over_price": "(self, at)",
        "under_price": "(self, to)", "opening": "(self)", "turned": "(self)",
    },
    (bounds, "Bounds", f"(field, *, ends={WHOLE})"): {
        "bound": "(self, at, to, step)", "table": "(self)", "worth": "(self)", "path": "(self)", "ends": "(self)",
    },
    (stretches, "Stretches", "(field)"): {
        "bound": "(self, at, to, step)", "table": "(self)", "worth": "(self)", "told": "(self)",
    },
    (chains, "Chain", "(field, *, fee=1)"): {
        "bound": "(self, at, to, state)", "worth": "(self)", "text": "(self)", "told": "(self)",
    },
    (ways, "Ways", f"(field, *, ends={WHOLE})"): {
        "many": "(self)", "path_at": "(self, number)", "number_of": "(self, path)", "in_all": "(self)",
        "in_some": "(self)",
    },
    (sheets, "Sheet", "(over, under, scale)"): {
        "put": "(self, side, at, letters)", "take": "(self, side, at, many)", "turn": "(self, side, at, letter)",
        "row": "(self, side)", "bound": "(self, at, to, step)", "worth": "(self)", "path": "(self)",
        "copied": "(self)",
    },
    (joins, "Joined", "(rows)"): {
        "rows": "(self)", "many": "(self)", "columns": "(self)", "counts": "(self)", "row_of": "(self, at)",
        "between": "(self, at, to)", "without": "(self, at)", "field_with": "(self, other, scale)",
        "joined_with": "(self, other, scale)",
    },
    (book, "Book", "(scale)"): {
        "do": "(self, deed)", "back": "(self)", "again": "(self)",
        "tried": f"(self, deeds, one, other, *, ends={WHOLE})", "names": "(self)", "rows_of": "(self, name)",
        "laying": f"(self, one, other, *, ends={WHOLE})", "many": f"(self, one, other, *, ends={WHOLE})",
        "path_at": f"(self, one, other, number, *, ends={WHOLE})", "banded": "(self, one, other, *, breadth=2)",
        "stretch": "(self, one, other)", "log": "(self)",
    },
    (desk, "Desk", "(text)"): {"say": "(self, row)"},
}


def tree_of(path):
    return ast.parse(path.read_text(encoding="ascii"))


def defined_in(body):
    """The names of the functions and classes that are defined right there."""
    return [part.name for part in body if isinstance(part, (ast.FunctionDef, ast.ClassDef))]


def defined_in_file_of(module):
    """The names that are defined in the file of a module."""
    return defined_in(tree_of(PACKAGE / (module.__name__.split(".")[-1] + ".py")).body)


class TheInterface(unittest.TestCase):
    def test_errors(self):
        names = defined_in(tree_of(PACKAGE / "errors.py").body)
        for name in [*ERRORS, *PLAIN_ERRORS]:
            self.assertIn(name, names)
        for name, arguments in ERRORS.items():
            with self.subTest(name=name):
                self.assertEqual(str(inspect.signature(getattr(errors, name))), arguments)

    def test_kinds(self):
        names = defined_in(tree_of(PACKAGE / "kinds.py").body)
        for name in KINDS:
            with self.subTest(name=name):
                self.assertIn(name, names)
                self.assertEqual(str(inspect.signature(getattr(kinds, name))), "(thing)")

    def test_functions(self):
        for module, functions in FUNCTIONS.items():
            names = defined_in_file_of(module)
            for name, arguments in functions.items():
                with self.subTest(module=module.__name__, name=name):
                    self.assertIn(name, names)
                    self.assertEqual(str(inspect.signature(getattr(module, name))), arguments)

    def test_classes(self):
        for (module, name, arguments), methods in CLASSES.items():
            with self.subTest(module=module.__name__, name=name):
                self.assertIn(name, defined_in_file_of(module))
                self.assertEqual(str(inspect.signature(getattr(module, name))), arguments)
            for method, its_arguments in methods.items():
                with self.subTest(module=module.__name__, name=name, method=method):
                    made = vars(getattr(module, name))
                    self.assertIn(method, made)
                    self.assertEqual(str(inspect.signature(made[method])), its_arguments)


class TheLanguage(unittest.TestCase):
    """Some of the rules of the language that are soon broken unseen."""

    def setUp(self):
        self.files = sorted(PACKAGE.rglob("*.py"))
        self.assertIn(PACKAGE / "__init__.py", self.files)

    def test_signs_and_sizes(self):
        for path in self.files:
            with self.subTest(path=path.name):
                text = path.read_text(encoding="ascii")
                self.assertTrue(all(sign == "\n" or " " <= sign <= "~" for sign in text))
                lines = text.split("\n")
                self.assertLessEqual(len(lines), 399)
                self.assertLessEqual(max(len(line) for line in lines), 120)

    def test_functions_are_small(self):
        for path in self.files:
            for part in ast.walk(tree_of(path)):
                if isinstance(part, ast.FunctionDef):
                    with self.subTest(path=path.name, name=part.name):
                        self.assertLessEqual(part.end_lineno - part.lineno + 1, 40)

    def test_imports_come_from_the_package_or_the_few_allowed(self):
        allowed = ("laybeside", "heapq", "math", "itertools", "collections", "__future__")
        for path in self.files:
            for part in ast.walk(tree_of(path)):
                self.assertNotIsInstance(part, ast.Import)
                if isinstance(part, ast.ImportFrom):
                    with self.subTest(path=path.name, module=part.module):
                        self.assertEqual(part.level, 0)
                        self.assertIn(part.module.split(".")[0], allowed)

    def test_no_text_has_a_percent_sign(self):
        for path in self.files:
            for part in ast.walk(tree_of(path)):
                if isinstance(part, ast.Constant) and isinstance(part.value, str):
                    self.assertNotIn("%", part.value)


if __name__ == "__main__":
    unittest.main()
