import importlib
import inspect
import unittest

PARAMETERS = {
    "routes": {
        "run": ["board", "kind", "amount", "value"],
        "least_start": ["board", "kind", "route", "wanted"],
        "comes_out": ["board", "kind", "route", "wanted"],
        "period_of": ["board", "kind", "route"],
        "find_difference": ["board", "kind", "route", "other"],
        "amounts_within": ["board", "kind", "amount", "steps"],
    },
    "best": {
        "best_within": ["board", "kind", "amount", "steps"],
        "best_from": ["board", "kind", "amount"],
        "least_needed": ["board", "kind", "target", "wanted"],
        "find_certificate": ["board", "kind", "amount", "target", "wanted"],
        "certificate_holds": ["board", "kind", "amount", "target", "wanted", "value"],
        "needed_counters": ["board", "kind", "amount"],
    },
    "loops": {
        "is_loop": ["board", "value"],
        "turn_of": ["board", "loop", "amount"],
        "fixed_amounts": ["board", "loop", "most"],
        "fate_of": ["board", "loop", "amount"],
        "growth_start": ["board", "loop"],
        "greatest_fixed": ["board", "loop"],
        "loops_at": ["board", "kind"],
    },
}


class InterfaceTest(unittest.TestCase):
    def test_each_function_is_defined_in_its_file(self):
        for file, functions in PARAMETERS.items():
            module = importlib.import_module("coincounters." + file)
            for name, parameters in functions.items():
                with self.subTest(file=file, name=name):
                    function = getattr(module, name)
                    self.assertTrue(inspect.isfunction(function))
                    self.assertEqual(function.__module__, "coincounters." + file)
                    self.assertEqual(list(inspect.signature(function).parameters), parameters)


if __name__ == "__main__":
    unittest.main()
