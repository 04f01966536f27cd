"""Point 19: scenarios."""

import copy
import itertools
import random
import unittest

from lotkept.errors import LotkeptError
from lotkept.networks import Network
from lotkept.scenarios import is_scenario, run_scenario
from tests.any_values import any_values
from tests.forgeries import random_case
from tests.helpers import FOUR, THREE, TWO, numbers_for, outcome, state_of, zeros_for
from tests.places import places, put

NO_STORAGE = (7, ("a", "b"), ("p",), (("a",), ("b",)), (("a",), ("b",)))
NO_PRODUCTS = (7, ("a", "b"), ("p", "q"), (("a",), ("b",)), ((),))
COUNTS = {"store": 3, "add": 4, "scale": 4, "multiply": 4, "read": 2, "publish": 2}
EVERYTHING = (
    ("store", ("p", "x", 5), ((1, "d", (("", ("share", ("p",), 0, 1)),)),)),
    ("store", ("q", "y", 3), ()),
    ("add", ("p", "z", "x", "y"), ()),
    ("scale", ("q", "z", 2, "z"), ((1, "q", ()),)),
    ("multiply", ("p", "w", "z", "x"), ((6, "d", ()),)),
    ("read", ("q", "w"), ()),
    ("publish", ("p", "z"), ((1, "d", (("", ("report", 0, 6)),)),)),
)
FULL = (FOUR, ("d", "q"), numbers_for(FOUR, 60), EVERYTHING)
SHORT = (THREE, (), (("p", (3, 2)),), (("store", ("p", "x", 5), ()), ("read", ("q", "x"), ())))


def accepts(scheme, faulty, randomness):
    try:
        Network(scheme, faulty, randomness)
    except LotkeptError:
        return False
    return True


def looks_right(thing):
    """What a scenario is, in other words."""
    if type(thing) is not tuple or len(thing) != 4 or not accepts(*thing[:3]) or type(thing[3]) is not tuple:
        return False
    for step in thing[3]:
        if type(step) is not tuple or len(step) != 3 or type(step[1]) is not tuple:
            return False
        if not any(type(step[0]) is str and step[0] == word and len(step[1]) == COUNTS[word] for word in COUNTS):
            return False
    return True


class IsScenarioTest(unittest.TestCase):
    def check(self, thing, expected):
        before = copy.deepcopy(thing)
        self.assertIs(is_scenario(thing), expected, thing)
        self.assertIs(is_scenario(thing=thing), expected)
        self.assertEqual(repr(thing), repr(before))

    def test_scenarios(self):
        for scenario in (
            FULL, SHORT, (THREE, (), (), ()), (TWO, ("p",), (), ()), (NO_PRODUCTS, (), (), ()),
            (FOUR, ("a", "p", "q"), (("a", (0, 10 ** 39)), ("q", ())), ()),
        ):
            self.check(scenario, True)

    def test_every_value(self):
        for thing in any_values():
            self.check(thing, False)

    def test_every_value_at_every_place(self):
        accepted = 0
        for place in places(SHORT)[1:]:
            for thing in any_values():
                scenario = put(SHORT, place, thing)
                self.check(scenario, looks_right(scenario))
                accepted += is_scenario(scenario)
        # The arguments and the overrides are any values.
        self.assertGreater(accepted, 5 * len(any_values()))

    def test_arguments_and_overrides_are_any_values(self):
        for thing in any_values():
            for word, count in COUNTS.items():
                self.check((THREE, (), (), ((word, (thing,) * count, thing),)), True)

    def test_the_number_of_arguments(self):
        for word, many in itertools.product(COUNTS, range(7)):
            self.check((THREE, (), (), ((word, ("p",) * many, ()),)), many == COUNTS[word])
            self.check((THREE, (), (), ((word, ["p"] * many, ()),)), False)

    def test_other_words(self):
        for word in ("Store", "stores", "", "store ", "exposed", "keys", "send", None, True, 1, ("store",), ["store"], {}):
            for many in range(5):
                self.check((THREE, (), (), ((word, ("p",) * many, ()),)), False)

    def test_parts_missing_and_added(self):
        for place in places(SHORT, 3):
            part = SHORT
            for index in place:
                part = part[index]
            if isinstance(part, tuple):
                for other in (part[:-1], part[1:], part + ((),), part + (None,), ((),) + part, list(part)):
                    scenario = put(SHORT, place, other)
                    self.check(scenario, looks_right(scenario))
        step = SHORT[3][0]
        for steps in ((step[:2],), (step + ((),),), (step, None), step, [step], (list(step),), (step, step[:1])):
            self.check(SHORT[:3] + (steps,), False)
        self.check(SHORT + ((),), False)
        self.check(list(SHORT), False)

    def test_what_a_network_rejects(self):
        for start in (
            (NO_STORAGE, (), ()), ((4,) + THREE[1:], (), ()), (THREE, ("a",), ()), (FOUR, ("a", "b"), ()),
            (FOUR, ("q", "p"), ()), (FOUR, ("x",), ()), (FOUR, (), (("p", (-1,)),)), (FOUR, (), (("p", (True,)),)),
            (FOUR, (), (("q", ()), ("p", ()))), (FOUR, (), (("x", ()),)), (FOUR, None, ()), (FOUR, (), None),
        ):
            self.check(start + ((),), False)
            self.check(start + (SHORT[3],), False)


class RunScenarioTest(unittest.TestCase):
    def directly(self, scenario):
        network = Network(*scenario[:3])
        for word, arguments, overrides in scenario[3]:
            getattr(network, word)(*arguments, overrides=overrides)
        return network

    def check(self, scenario):
        before = copy.deepcopy(scenario)
        network, directly = run_scenario(scenario), self.directly(scenario)
        expected = state_of(directly, scenario[0])
        self.assertEqual(state_of(network, scenario[0]), expected)
        # The sum of two values is the same in either order, but they are kept in the order in which they were given.
        self.assertEqual(repr(network.history()), repr(directly.history()))
        self.assertEqual(state_of(run_scenario(scenario=scenario), scenario[0]), expected)
        self.assertEqual(repr(scenario), repr(before))

    def test_each_operation(self):
        for many in range(len(EVERYTHING) + 1):
            self.check(FULL[:3] + (EVERYTHING[:many],))
        network = run_scenario(FULL)
        self.assertIsInstance(network, Network)
        self.assertEqual((network.expected_value("z"), network.operation_count()), (2 * (5 + 3) % 7, 7))
        self.assertEqual(network.exposed(), ("d",))

    def test_no_operations(self):
        network = run_scenario((THREE, (), (), ()))
        self.assertEqual((len(network), network.operation_count(), network.messages()), (0, 0, ()))

    def test_random_scenarios(self):
        for seed in range(60):
            chance = random.Random(seed)
            with self.subTest(seed=seed):
                self.check(random_case(chance, 6, chance.random() < 0.3))

    def test_two_runs_share_nothing(self):
        one, other = run_scenario(SHORT), run_scenario(SHORT)
        one.scale("p", "x", 3, "x")
        self.assertEqual((one.expected_value("x"), other.expected_value("x")), (1, 5))

    def check_failure(self, scheme, operations, error, attributes, randomness=()):
        scenario = (scheme, (), randomness, tuple(operations))
        self.assertTrue(is_scenario(scenario))
        self.assertEqual(outcome(lambda: run_scenario(scenario)), (error, attributes))

    def test_the_first_failing_operation(self):
        good = ("store", ("p", "x", 5), ())
        zeros = zeros_for(THREE, 2)
        failures = (
            (("read", ("a", "x"), ()), "UnknownClient", {"name": "a"}),
            (("publish", ("p", "y"), ()), "UnknownKey", {"name": "y"}),
            (("add", ("p", "z", "x", ["x"]), ()), "UnknownKey", {"name": ["x"]}),
            (("scale", ("p", "X", 3, "x"), ()), "InvalidName", {"value": "X"}),
            (("store", ("p", "y", True), ()), "InvalidValue", {"value": True}),
            (("read", ("p", "x"), ((1, "a", ()),)), "InvalidOverrides", {"value": ((1, "a", ()),)}),
            (("read", ("p", "x"), None), "InvalidOverrides", {"value": None}),
            (("add", ("p", "z", "x", "x"), ((1, "p", ()),)), "InvalidOverrides", {"value": ((1, "p", ()),)}),
            (("scale", ("p", "z", 3, "x"), ((1, "p", ()),)), "InvalidOverrides", {"value": ((1, "p", ()),)}),
            (("multiply", ("p", "y", "x", "x"), ()), "RandomnessExhausted", {"party": "a"}),
            (("store", ("p", "y", 1), ()), "RandomnessExhausted", {"party": "p"}),
        )
        for at, (step, error, attributes) in enumerate(failures):
            with self.subTest(step=step):
                self.check_failure(THREE, (good, step), error, attributes, zeros)
                # What follows the first failure does not count.
                later = failures[(at + 1) % len(failures)][0]
                self.check_failure(THREE, (good, step, later, good), error, attributes, zeros)

    def test_a_scheme_without_products(self):
        steps = (("store", ("p", "x", 5), ()), ("multiply", ("p", "y", "x", "x"), None))
        self.check_failure(NO_PRODUCTS, steps, "Conflict", {"sets": (("a",), ("b",), ())}, (("p", (1,)),))

    def test_a_failure_at_the_start(self):
        self.check_failure(THREE, (("read", ("p", "x"), ()),), "UnknownKey", {"name": "x"})
        for thing in any_values():
            if thing not in ("p", "q"):
                for word, count in COUNTS.items():
                    self.check_failure(THREE, ((word, (thing,) * count, thing),), "UnknownClient", {"name": thing})


if __name__ == "__main__":
    unittest.main()
