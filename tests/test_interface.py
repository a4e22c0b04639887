"""The interface: each name stands in its file, with its arguments; each method in the body of its class."""

import ast
import importlib
import inspect
import pathlib
import unittest

PACKAGE = pathlib.Path(__file__).resolve().parent.parent / "coverstore"

FUNCTIONS = {
    "ranges": {
        "is_bits": "value",
        "is_value": "value, bits",
        "is_range": "value, bits",
        "range_of": "value, bits",
        "bounds": "prefix, bits",
        "common_range": "one, other, bits",
        "least_cover": "first, last, bits",
        "widest_range": "value, bits, barred=()",
    },
    "queries": {"fit": "query, source"},
    "evaluating": {
        "key_at": "query, position, point",
        "laid_over": "query, position, box",
        "false_box": "query, position, point, bits",
        "is_false_in": "query, position, box",
        "literal_holds": "source, query, position, point",
        "first_failing": "source, query, point",
        "plain_answer": "source, query",
    },
    "checks": {"accepts": "source, query, answer, paper", "wrong_line": "source, paper"},
    "engine": {
        "paper_of": "source, query, *, box=None, limit=2000",
        "best_order": "source, query, *, limit=2000",
    },
    "breaks": {"paper_break": "base, version, paper", "broken_lines": "source, paper"},
    "repair": {"repaired": "source, paper"},
    "reasons": {"why": "paper, point", "why_not": "paper, point", "what_if": "keeper, writes"},
    "durable": {"record_text": "body", "pages_of": "record"},
    "replicas": {"stretch_of": "store, version, digits", "reply": "store, request"},
}

# What every source has.
SOURCE_METHODS = {
    "bits": None, "tables": "", "columns": "table", "orders": "table", "payload": "table, key",
    "keys_in": "table, box", "is_clear": "table, box", "gap": "table, key, order=0", "gaps": "table, key",
}

# The arguments of each method without its own object or class; a property has None.
CLASSES = {
    "boxes": {
        "Box": ("bits, ranges=()", {
            "whole": "bits, length", "at": "bits, *values", "read": "bits, text",
            "bits": None, "ranges": None, "size": None, "is_point": None,
            "meets": "other", "holds": "point", "only_point": "", "half": "place, digit",
            "joined": "other, place", "each_point": "",
            "__eq__": "other", "__len__": "", "__str__": "", "__repr__": "",
            "__getitem__": "place", "__contains__": "value", "__and__": "other",
        }),
    },
    "bases": {
        "Base": ("bits", {
            "bits": None, "version": None, "oldest": None,
            "add_table": "name, columns, *orders", "tables": "", "columns": "table", "orders": "table",
            "commit": "writes", "payload": "table, key, version=None", "rows": "table, version=None",
            "keys_in": "table, box, version=None", "changed_keys": "version=None",
            "presence_break": "table, key, version=None", "payload_break": "table, key, version=None",
            "clear_break": "table, box, version=None", "forget": "version", "snapshot": "version=None",
        }),
    },
    "sources": {
        "Source": (None, SOURCE_METHODS),
        "Snapshot": ("base, version=None", {"version": None, **SOURCE_METHODS}),
    },
    "queries": {
        "Query": ("literals, order=None", {
            "read": "text", "variables": None, "literals": "", "in_order": "*variables",
            "__eq__": "other", "__len__": "", "__str__": "", "__repr__": "",
        }),
    },
    "papers": {
        "Paper": ("bits, query, lines", {
            "bits": None, "query": None, "closing": None, "is_trimmed": None,
            "lines": "", "box": "number", "points": "", "needed": "", "trimmed": "", "read": "bits, query, text",
            "__eq__": "other", "__len__": "", "__str__": "", "__repr__": "",
        }),
    },
    "groups": {
        "Grouping": ("query, by=(), what='count', of=None", {
            "by": None, "what": None, "of": None, "results": "source, points", "__eq__": "other",
        }),
    },
    "repair": {
        "Repair": (None, {"paper": None, "is_changed": None, "lost": "", "found": "", "probed": ""}),
    },
    "keepers": {
        "Keeper": ("base", {
            "keep": "name, query, *, limit=2000", "release": "name", "names": "",
            "kept_query": "name", "kept_paper": "name", "version_of": "name", "answer": "name, version=None",
            "catch_up": "*names", "hits": "table, key", "__len__": "", "__contains__": "value",
        }),
    },
    "views": {
        "View": ("keeper, name, query, by=(), what='count', of=None", {
            "results": "version=None", "difference": "version",
        }),
    },
    "overlays": {
        "Overlay": ("source, writes", {**SOURCE_METHODS, "writes": ""}),
    },
    "transactions": {
        "Transaction": (None, {
            "version": None, "is_open": None, "ask": "query, *, limit=2000",
            "groups": "query, by=(), what='count', of=None, *, limit=2000",
            "add_row": "table, key, payload", "change_row": "table, key, payload", "drop_row": "table, key",
            "commit": "", "abandon": "", "acts": "", "writes": "",
        }),
    },
    "stores": {
        "Store": ("bits", {
            "bits": None, "version": None, "oldest": None, "keeper": None, "add_table": "name, columns, *orders",
            "tables": "", "columns": "table", "orders": "table", "require": "name, query", "constraints": "",
            "begin": "", "snapshot": "version=None", "pin": "name, version=None", "unpin": "name", "pins": "",
            "forget": "version",
        }),
    },
    "disks": {
        "Disk": ("", {
            "__len__": "", "pages": "", "write": "page", "crash_after": "count", "has_crashed": None, "restarted": "",
            "spoil": "number, page",
        }),
    },
    "durable": {
        "DurableStore": ("bits, disk", {
            "add_table": "name, columns, *orders", "require": "name, query", "recovered": "disk",
        }),
    },
    "replicas": {
        "Replica": ("store", {"first": None, "heard": None, "receive": "message", "ask": "query, version=None"}),
    },
    "desk": {
        "Desk": ("bits", {"store": None, "say": "command"}),
    },
}

CLASS_VALUES = {
    ("boxes", "Box", "MAX_RANGES"): 5,
    ("bases", "Base", "MAX_TABLES"): 8,
    ("bases", "Base", "MAX_PAYLOAD"): 10 ** 9,
    ("queries", "Query", "MAX_LITERALS"): 8,
    ("queries", "Query", "MAX_VARIABLES"): 5,
    ("queries", "Query", "MAX_INTEGER"): 1023,
    ("disks", "Disk", "PAGE"): 32,
}

CLASS_METHODS = {
    ("Box", "whole"), ("Box", "at"), ("Box", "read"), ("Query", "read"), ("Paper", "read"),
    ("DurableStore", "recovered"),
}


def defined_in(file):
    """The names of the functions and classes whose definitions stand in a file."""
    tree = ast.parse((PACKAGE / f"{file}.py").read_text())
    return [node.name for node in tree.body if isinstance(node, (ast.FunctionDef, ast.ClassDef))]


def arguments(function):
    """The arguments of a function as the interface writes them."""
    return str(inspect.signature(function))[1:-1]


class InterfaceTest(unittest.TestCase):

    def test_functions(self):
        for file, functions in FUNCTIONS.items():
            module = importlib.import_module(f"coverstore.{file}")
            for name, expected in functions.items():
                self.assertIn(name, defined_in(file))
                self.assertEqual(expected, arguments(getattr(module, name)), name)

    def test_classes(self):
        for file, classes in CLASSES.items():
            module = importlib.import_module(f"coverstore.{file}")
            for name, (expected, methods) in classes.items():
                self.assertIn(name, defined_in(file))
                found = getattr(module, name)
                if expected is not None:
                    self.assertEqual(expected, arguments(found), name)
                for method, expected_there in methods.items():
                    self.assert_method(found, method, expected_there)

    def assert_method(self, found, method, expected):
        self.assertIn(method, vars(found), f"{found.__name__}.{method}")
        there = vars(found)[method]
        if expected is None:
            self.assertIsInstance(there, property)
        elif (found.__name__, method) in CLASS_METHODS:
            self.assertIsInstance(there, classmethod)
            self.assertEqual(expected, arguments(getattr(found, method)), method)
        else:
            self.assertTrue(inspect.isfunction(there))
            self.assertEqual(expected, arguments(there).removeprefix("self").removeprefix(", "), method)

    def test_class_values(self):
        for (file, name, value), expected in CLASS_VALUES.items():
            module = importlib.import_module(f"coverstore.{file}")
            self.assertEqual(expected, vars(getattr(module, name))[value])

    def test_properties_are_not_assigned(self):
        for file, classes in CLASSES.items():
            module = importlib.import_module(f"coverstore.{file}")
            for name, (_, methods) in classes.items():
                for method, expected in methods.items():
                    if expected is None:
                        self.assertIsNone(vars(getattr(module, name))[method].fset)


if __name__ == "__main__":
    unittest.main()
