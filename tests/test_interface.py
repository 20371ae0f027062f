"""Each name of the interface is defined in its file, with its arguments."""

import importlib
import inspect
import unittest

FUNCTIONS = {
    "spec": {
        "is_expression": "value", "depth": "expression", "used": "expression", "known": "name",
    },
    "founded": {"emptyable": "spec", "order": "spec", "fault": "spec"},
}
METHODS = {"__init__": "self equations", "names": "self", "expression": "self name"}


class Interface(unittest.TestCase):
    def test_functions(self):
        for file, functions in FUNCTIONS.items():
            module = importlib.import_module("speciesmill." + file)
            for name, arguments in functions.items():
                function = getattr(module, name)
                self.assertEqual(function.__module__, "speciesmill." + file)
                self.assertEqual(list(inspect.signature(function).parameters), arguments.split(), name)

    def test_the_methods_of_a_specification(self):
        from speciesmill.spec import Spec

        self.assertEqual(Spec.__module__, "speciesmill.spec")
        for name, arguments in METHODS.items():
            self.assertIn(name, vars(Spec))
            self.assertEqual(list(inspect.signature(vars(Spec)[name]).parameters), arguments.split(), name)


if __name__ == "__main__":
    unittest.main()
