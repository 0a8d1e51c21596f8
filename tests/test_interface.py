import ast
import importlib
import inspect
import pathlib
import unittest

from coincounters import caps, purses, shells
from tests.samples import BOARD_A

PARAMETERS = {
    "routes": {
        "run": ["board", "kind", "amount", "value"],
        "least_start": ["board", "kind", "route", "wanted"],
        "comes_out": ["board", "kind", "route", "wanted"],
        "period_of": ["board", "kind", "route"],
        "find_difference": ["board", "kind", "route", "other"],
        "amounts_within": ["board", "kind", "amount", "steps"],
    },
    "best": {
        "best_within": ["board", "kind", "amount", "steps"],
        "best_from": ["board", "kind", "amount"],
        "least_needed": ["board", "kind", "target", "wanted"],
        "find_certificate": ["board", "kind", "amount", "target", "wanted"],
        "certificate_holds": ["board", "kind", "amount", "target", "wanted", "value"],
        "needed_counters": ["board", "kind", "amount"],
    },
    "loops": {
        "is_loop": ["board", "value"],
        "turn_of": ["board", "loop", "amount"],
        "fixed_amounts": ["board", "loop", "most"],
        "fate_of": ["board", "loop", "amount"],
        "growth_start": ["board", "loop"],
        "greatest_fixed": ["board", "loop"],
        "loops_at": ["board", "kind"],
    },
    "texts": {
        "purse_text": ["board", "kind", "amount"],
        "parse_purse": ["value"],
    },
}

SIGNATURES = {
    caps.Cap: {"room": "(self, coins)"},
    purses.Purse: {
        "change": "(self, index)",
        "earn": "(self, coins)",
        "put_up": "(self, counter)",
        "close": "(self, index)",
        "undo": "(self)",
        "attempt": "(self, edits, *, watch=None)",
        "state": "(self, *, version=None)",
        "certificate": "(self, target, wanted, *, version=None)",
        "walk": "(self, target, wanted)",
        "edits": "(self)",
        "read": "(text)",
        "__len__": "(self)",
        "__str__": "(self)",
        "__eq__": "(self, other)",
    },
    purses.CappedPurse: {},
    shells.Shell: {"execute": "(self, line)"},
}

CONSTRUCTORS = {
    caps.Cap: "(most)",
    purses.Purse: "(board, kind, amount)",
    purses.CappedPurse: "(board, kind, amount, most)",
    shells.Shell: "(purse)",
}

DEFINED = {
    **PARAMETERS,
    "boards": ("is_board", "board_error", "changed", "with_counter", "without_counter", "merged", "renamed"),
    "caps": ("Cap",),
    "purses": ("Purse", "CappedPurse"),
    "shells": ("Shell",),
}


class InterfaceTest(unittest.TestCase):
    def test_each_function_is_defined_in_its_file(self):
        for file, functions in PARAMETERS.items():
            module = importlib.import_module("coincounters." + file)
            for name, parameters in functions.items():
                with self.subTest(file=file, name=name):
                    function = getattr(module, name)
                    self.assertTrue(inspect.isfunction(function))
                    self.assertEqual(function.__module__, "coincounters." + file)
                    self.assertEqual(list(inspect.signature(function).parameters), parameters)

    def test_each_method_is_defined_in_its_class(self):
        for owner, methods in SIGNATURES.items():
            self.assertEqual(str(inspect.signature(owner)), CONSTRUCTORS[owner])
            for name, signature in methods.items():
                with self.subTest(owner=owner, name=name):
                    self.assertIn(name, vars(owner))
                    self.assertEqual(str(inspect.signature(getattr(owner, name))), signature)

    def test_each_name_is_written_in_its_file(self):
        folder = pathlib.Path(caps.__file__).parent
        for file, names in DEFINED.items():
            tree = ast.parse((folder / (file + ".py")).read_text())
            defined = [node.name for node in tree.body if isinstance(node, (ast.FunctionDef, ast.ClassDef))]
            for name in names:
                with self.subTest(file=file, name=name):
                    self.assertEqual(defined.count(name), 1)

    def test_attributes_are_set_when_an_object_is_created(self):
        purse, capped = purses.Purse(BOARD_A, 0, 2), purses.CappedPurse(BOARD_A, 0, 2, 5)
        for item, names in [(purse, ()), (capped, ("most",)), (caps.Cap(5), ("most",))]:
            if isinstance(item, purses.Purse):
                names += ("board", "kind", "amount", "best")
            for name in names:
                with self.subTest(item=item, name=name):
                    self.assertIn(name, vars(item))

    def test_read_is_a_class_method_and_walk_a_generator(self):
        self.assertIsInstance(vars(purses.Purse)["read"], classmethod)
        walk = purses.Purse(BOARD_A, 0, 2).walk(1, 3)
        self.assertIs(iter(walk), walk)


if __name__ == "__main__":
    unittest.main()
