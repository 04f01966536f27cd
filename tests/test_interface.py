"""Everything that the interface lists exists under its name, in its file, with its arguments."""

import importlib
import inspect
import unittest

FUNCTIONS = (
    ("lotkept.party_sets", "is_name", ("thing",)),
    ("lotkept.party_sets", "is_party_set", ("thing",)),
    ("lotkept.party_sets", "is_subset", ("first", "second")),
    ("lotkept.party_sets", "union", ("sets",)),
    ("lotkept.schemes", "is_scheme", ("thing",)),
    ("lotkept.schemes", "require_storage", ("scheme",)),
    ("lotkept.schemes", "require_multiplication", ("scheme",)),
    ("lotkept.schemes", "holders", ("scheme", "index")),
    ("lotkept.shares", "split_value", ("scheme", "value", "numbers")),
    ("lotkept.shares", "public_shares", ("scheme", "value")),
    ("lotkept.shares", "combine_shares", ("scheme", "shares")),
    ("lotkept.reports", "correct_value", ("scheme", "index", "reports")),
    ("lotkept.faults", "identify_faulty", ("scheme", "exposed", "disputes")),
    ("lotkept.scenarios", "is_scenario", ("thing",)),
    ("lotkept.scenarios", "run_scenario", ("scenario",)),
    ("lotkept.equivalence", "equivalent_scenario", ("scenario", "observers", "values")),
    ("lotkept.logs", "party_log", ("network", "party")),
    ("lotkept.log_checks", "first_deviation", ("scheme", "party", "thing")),
    ("lotkept.scheme_text", "format_scheme", ("scheme",)),
    ("lotkept.scheme_text", "parse_scheme", ("text",)),
    ("lotkept.claims", "claim_holds", ("thing",)),
)
# For each class, its methods: their arguments, and whether they take overrides by name.
CLASSES = (
    ("lotkept.networks", "Network", (
        ("__init__", ("scheme", "faulty", "randomness"), False),
        ("__len__", (), False),
        ("store", ("client", "key", "value"), True),
        ("add", ("client", "key", "first", "second"), True),
        ("scale", ("client", "key", "factor", "first"), True),
        ("multiply", ("client", "key", "first", "second"), True),
        ("read", ("client", "key"), True),
        ("publish", ("client", "key"), True),
        ("stored_keys", (), False),
        ("expected_value", ("key",), False),
        ("shares_at", ("server", "key"), False),
        ("exposed", (), False),
        ("disputes", (), False),
        ("round_count", (), False),
        ("operation_count", (), False),
        ("remaining", ("party",), False),
        ("messages", (), False),
        ("incident_count", (), False),
        ("view", ("observers",), False),
    )),
    ("lotkept.console", "Console", (
        ("__init__", ("scheme", "faulty", "randomness"), False),
        ("network", (), False),
        ("run", ("line",), False),
    )),
)


class InterfaceTest(unittest.TestCase):
    def check_plain(self, parameters, arguments):
        self.assertEqual(tuple(parameter.name for parameter in parameters), arguments)
        for parameter in parameters:
            self.assertIs(parameter.kind, inspect.Parameter.POSITIONAL_OR_KEYWORD)
            self.assertIs(parameter.default, inspect.Parameter.empty)

    def test_functions(self):
        for module, name, arguments in FUNCTIONS:
            function = getattr(importlib.import_module(module), name)
            self.assertTrue(inspect.isfunction(function), name)
            self.assertEqual(function.__module__, module)
            self.assertEqual(function.__name__, name)
            self.check_plain(list(inspect.signature(function).parameters.values()), arguments)

    def test_classes_and_their_methods(self):
        for module, name, methods in CLASSES:
            found = getattr(importlib.import_module(module), name)
            self.assertTrue(inspect.isclass(found), name)
            self.assertEqual((found.__module__, found.__name__), (module, name))
            for method, arguments, has_overrides in methods:
                # Each method stands in the class itself.
                self.assertTrue(inspect.isfunction(vars(found).get(method)), method)
                parameters = list(inspect.signature(vars(found)[method]).parameters.values())[1:]
                if has_overrides:
                    last = parameters.pop()
                    self.assertEqual((last.name, last.default), ("overrides", ()))
                    self.assertIs(last.kind, inspect.Parameter.KEYWORD_ONLY)
                self.check_plain(parameters, arguments)


if __name__ == "__main__":
    unittest.main()
