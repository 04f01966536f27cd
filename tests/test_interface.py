"""Everything that the interface lists exists under its name, in its file, with its arguments."""

import importlib
import inspect
import unittest

FUNCTIONS = (
    ("lotkept.party_sets", "is_name", ("thing",)),
    ("lotkept.party_sets", "is_party_set", ("thing",)),
    ("lotkept.party_sets", "is_subset", ("first", "second")),
    ("lotkept.party_sets", "union", ("sets",)),
    ("lotkept.schemes", "is_scheme", ("thing",)),
    ("lotkept.schemes", "require_storage", ("scheme",)),
    ("lotkept.schemes", "require_multiplication", ("scheme",)),
    ("lotkept.schemes", "holders", ("scheme", "index")),
)


class InterfaceTest(unittest.TestCase):
    def test_functions(self):
        for module, name, arguments in FUNCTIONS:
            function = getattr(importlib.import_module(module), name)
            self.assertTrue(inspect.isfunction(function), name)
            self.assertEqual(function.__module__, module)
            self.assertEqual(function.__name__, name)
            parameters = list(inspect.signature(function).parameters.values())
            self.assertEqual(tuple(parameter.name for parameter in parameters), arguments)
            for parameter in parameters:
                self.assertIs(parameter.kind, inspect.Parameter.POSITIONAL_OR_KEYWORD)
                self.assertIs(parameter.default, inspect.Parameter.empty)


if __name__ == "__main__":
    unittest.main()
