"""The interface of the document: its names, where they are defined, their arguments and values."""

import ast
import importlib
import inspect
import pathlib
import unittest

PACKAGE = pathlib.Path(__file__).resolve().parent.parent / "windpoints"

# Of each file its functions and classes with their arguments; those behind a * stand behind one here, too.
FUNCTIONS = {
    "terms": {"check_term": "term, *, names=('input',)", "paths": "term", "free_names": "term", "part_at": "term, path"},
    "worths": {"op_worth": "word, worths", "shown": "worth", "chain": "worths", "unchained": "worth"},
    "plain": {"run": "term, given, *, most=4000"},
    "turning": {"turned": "term"},
    "lesser": {"run_turned": "term, given, *, most=200000"},
    "winders": {"between": "one, two", "left_in": "row"},
    "looks": {"last_places": "term", "escapes": "term"},
    "flows": {"flows": "term", "is_closed": "term, table"},
    "traces": {"trace": "term, given, *, most=4000", "is_trace": "term, given, thing, *, most=4000",
               "first_wrong": "term, given, rows, *, most=4000"},
    "lines": {"check": "line"},
    "kept": {"kept_from": "text"},
    "words": {"choose": "terms", "all_of": "term", "giver": "name, term", "give": "name, term", "deed": "word, term",
              "handled": "word, name, going, term, handler"},
    "texts": {"shown_term": "term", "read_term": "text"},
}
# Of each class how it is made (None where the interface doesn't tell), and its methods.
CLASSES = {
    "worths": {"Pair": ("first, rest", {}), "Fun": (None, {}), "Cell": (None, {}), "Point": (None, {}), "Part": (None, {})},
    "results": {"Result": (None, {})},
    "heap": {"HeapRun": ("term, given", {"go_on": "many", "result": ""})},
    "pile": {"PileRun": ("term, given, *, moves=False", {"go_on": "many", "result": "", "copied": ""})},
    "kept": {"Kept": ("term, given", {"go_on": "many", "result": "", "text": ""})},
    "desk": {"Desk": ("", {"say": "row"})},
}
ERRORS = {
    "NoTerm": (ValueError, ["at"]), "NoName": (ValueError, ["at", "name"]), "NoPath": (LookupError, ["at"]),
    "NoChain": (ValueError, ["at"]), "NoText": (ValueError, ["at"]), "NoRow": (ValueError, ["at"]),
    "Stuck": (RuntimeError, ["word"]),
}


def module(name):
    return importlib.import_module("windpoints." + name)


def arguments(function):
    """The arguments of a function as a text, without self."""
    found = inspect.signature(function)
    kept = [one for one in found.parameters.values() if one.name != "self"]
    return str(found.replace(parameters=kept))[1:-1]


def defined_in(name):
    """To each name that is defined in a file the node of its def or class."""
    tree = ast.parse((PACKAGE / (name + ".py")).read_text(encoding="utf-8"))
    return {node.name: node for node in tree.body if isinstance(node, (ast.FunctionDef, ast.ClassDef))}


class Interface(unittest.TestCase):
    def test_functions(self):
        for file, functions in FUNCTIONS.items():
            for name, told in functions.items():
                with self.subTest(file=file, function=name):
                    self.assertIsInstance(defined_in(file)[name], ast.FunctionDef)
                    self.assertEqual(arguments(getattr(module(file), name)), told)

    def test_classes(self):
        for file, classes in CLASSES.items():
            for name, (made, methods) in classes.items():
                with self.subTest(file=file, name=name):
                    node = defined_in(file)[name]
                    self.assertIsInstance(node, ast.ClassDef)
                    found = getattr(module(file), name)
                    if made is not None:
                        self.assertEqual(arguments(found), made)
                    own = [part.name for part in node.body if isinstance(part, ast.FunctionDef)]
                    for method, told in methods.items():
                        self.assertIn(method, own)
                        self.assertEqual(arguments(getattr(found, method)), told)

    def test_errors(self):
        for name, (base, fields) in ERRORS.items():
            self.assertIsInstance(defined_in("errors")[name], ast.ClassDef)
            found = getattr(module("errors"), name)
            self.assertTrue(issubclass(found, base))
            error = found(*[(1,)] * len(fields))
            self.assertEqual(vars(error), {field: (1,) for field in fields})

    def test_values(self):
        self.assertEqual(module("plain").MOST, 4000)
        self.assertEqual(module("lesser").TURNED_MOST, 200000)
        ops = {"plus": 2, "minus": 2, "times": 2, "less": 2, "same": 2, "joined": 2, "pair": 2, "first": 1, "rest": 1,
               "kind": 1, "written": 1}
        self.assertEqual(module("worths").OPS, ops)
        self.assertEqual(module("lesser").LESSER, {**ops, "tried": 2, "wound": 2, "point": 1, "part": 1, "inside": 1})


if __name__ == "__main__":
    unittest.main()
