"""Point 16: the errors of operations, their order, and that they change nothing."""

import copy
import itertools
import unittest

from lotkept import errors
from lotkept.networks import Network
from tests.any_values import any_values
from tests.helpers import FOUR, outcome, state_of

# It supports storage, but not multiplication.
STORAGE = (7, ("a", "b"), ("p", "q"), (("a",), ("b",)), ((),))

# For each operation: its arguments that succeed, and those that fail with the error that they cause, in the order
# of the document. Each failure is (error, place of the argument, wrong argument, attribute of the error).
CLIENT = ("UnknownClient", "client", "a", "name")
FIRST = ("UnknownKey", "first", "u", "name")
SECOND = ("UnknownKey", "second", "v", "name")
KEY = ("UnknownKey", "key", "u", "name")
NAME = ("InvalidName", "key", "Key", "value")
VALUE = ("InvalidValue", "value", 7, "value")
FACTOR = ("InvalidValue", "factor", -1, "value")
OVERRIDES = ("InvalidOverrides", "overrides", ((1, "p", ()),), "value")
OPERATIONS = {
    "store": ({"client": "p", "key": "y", "value": 1}, (CLIENT, NAME, VALUE, OVERRIDES)),
    "add": ({"client": "p", "key": "y", "first": "x", "second": "x"}, (CLIENT, FIRST, SECOND, NAME, OVERRIDES)),
    "scale": ({"client": "p", "key": "y", "factor": 3, "first": "x"}, (CLIENT, FIRST, NAME, FACTOR, OVERRIDES)),
    "multiply": ({"client": "p", "key": "y", "first": "x", "second": "x"}, (CLIENT, FIRST, SECOND, NAME, OVERRIDES)),
    "read": ({"client": "p", "key": "x"}, (CLIENT, KEY, OVERRIDES)),
    "publish": ({"client": "p", "key": "x"}, (CLIENT, KEY, OVERRIDES)),
}


def stored(scheme=FOUR, faulty=("d",), randomness=None):
    """A network in which x is 4, and nobody has a random number left."""
    if randomness is None:
        randomness = (("q", (1, 2, 3)[:len(scheme[3]) - 1]),)
    network = Network(scheme, faulty, randomness)
    network.store("q", "x", 4)
    return network


class OrderTest(unittest.TestCase):
    def check(self, network, scheme, word, arguments, error, attributes):
        before = state_of(network, scheme)
        self.assertEqual(outcome(lambda: getattr(network, word)(**arguments)), (error, attributes), (word, arguments))
        self.assertEqual(state_of(network, scheme), before)

    def test_every_combination_of_wrong_arguments(self):
        network = stored()
        for word, (arguments, failures) in OPERATIONS.items():
            for wrong in itertools.product((False, True), repeat=len(failures)):
                given = dict(arguments)
                expected = None
                for failure, is_wrong in zip(failures, wrong):
                    if is_wrong:
                        given[failure[1]] = failure[2]
                        expected = expected or (failure[0], {failure[3]: failure[2]})
                if expected is not None:
                    # The lack of random numbers comes last, so it is never what these calls raise.
                    self.check(network, FOUR, word, given, *expected)

    def test_randomness_comes_last(self):
        network = stored()
        self.check(network, FOUR, "store", OPERATIONS["store"][0], "RandomnessExhausted", {"party": "p"})
        self.check(network, FOUR, "multiply", OPERATIONS["multiply"][0], "RandomnessExhausted", {"party": "a"})

    def test_conflicts_come_before_overrides(self):
        network = stored(STORAGE, ())
        sets = {"sets": (("a",), ("b",), ())}
        arguments = OPERATIONS["multiply"][0]
        self.check(network, STORAGE, "multiply", arguments, "Conflict", sets)
        self.check(network, STORAGE, "multiply", dict(arguments, overrides=None), "Conflict", sets)
        wrong = dict(arguments, key=5, overrides=None)
        self.check(network, STORAGE, "multiply", wrong, "InvalidName", {"value": 5})
        wrong = dict(arguments, key=5, second=None)
        self.check(network, STORAGE, "multiply", wrong, "UnknownKey", {"name": None})

    def test_a_first_key_before_a_second_one(self):
        network = stored()
        for word in ("add", "multiply"):
            arguments = dict(OPERATIONS[word][0], first="v", second="u")
            self.check(network, FOUR, word, arguments, "UnknownKey", {"name": "v"})

    def test_by_position(self):
        for word, (arguments, failures) in OPERATIONS.items():
            network = stored()
            for error, place, wrong, attribute in failures[:-1]:
                row = list(dict(arguments, **{place: wrong}).values())
                self.assertEqual(outcome(lambda: getattr(network, word)(*row)), (error, {attribute: wrong}))

    def test_nothing_else_is_required(self):
        network = stored()
        self.assertIsNone(network.add("q", "y", "x", "x"))
        self.assertIsNone(network.scale("p", "z", 0, "y"))
        self.assertEqual((network.read("p", "z"), network.publish("q", "y")), ((0, ()), 1))


class RandomnessTest(unittest.TestCase):
    def test_the_first_party_that_lacks_numbers(self):
        enough = {"a": 27, "b": 27, "c": 27, "d": 27}
        for many, missing in (({}, None), ({"a": 26}, "a"), ({"d": 26}, "d"), ({"b": 0, "c": 5}, "b"),
                              ({"c": 26, "d": 0}, "c"), ({"a": 28, "d": 26}, "d")):
            counts = {name: dict(enough, **many)[name] for name in "abcd"}
            rows = [(name, (0,) * count) for name, count in counts.items()]
            network = stored(FOUR, (), tuple(rows) + (("q", (1, 2, 3)),))
            before = state_of(network, FOUR)
            result = outcome(lambda: network.multiply("p", "y", "x", "x"))
            if missing is None:
                self.assertEqual(result, ("returned", None))
            else:
                self.assertEqual(result, ("RandomnessExhausted", {"party": missing}))
                self.assertEqual(state_of(network, FOUR), before)
                self.assertEqual([network.remaining(name) for name in "abcd"], list(counts.values()))

    def test_27_are_needed_of_each_server_of_the_example(self):
        # Of the 16 terms a server is a dealer in 9, with 3 numbers each.
        rows = tuple((name, tuple(range(30))) for name in ("a", "b", "c", "d"))
        network = stored(FOUR, (), rows + (("q", (1, 2, 3)),))
        network.multiply("p", "y", "x", "x")
        self.assertEqual([network.remaining(name) for name in "abcdpq"], [3, 3, 3, 3, 0, 0])

    def test_a_store_needs_one_number_less_than_there_are_observer_sets(self):
        for many in range(5):
            network = Network(FOUR, (), (("p", (0,) * many), ("q", (0,) * 9)))
            result = outcome(lambda: network.store("p", "x", 4))
            self.assertEqual(result, ("returned", None) if many >= 3 else ("RandomnessExhausted", {"party": "p"}))
            self.assertEqual(network.remaining("p"), many - 3 if many >= 3 else many)

    def test_a_failed_call_leaves_room_for_another_one(self):
        network = Network(FOUR, ("d",), (("q", (1, 2, 3, 4)),))
        for call in (
            lambda: network.store("p", "x", 4), lambda: network.store("q", "x", 7), lambda: network.read("q", "x"),
            lambda: network.store("q", "x", 4, overrides=((1, "q", ()),)),
        ):
            with self.assertRaises((errors.LotkeptError, errors.NotFound)):
                call()
        network.store("q", "x", 4)
        self.assertEqual((network.shares_at("d", "x"), network.remaining("q")), ((1, 2, 3, None), 1))
        self.assertEqual(network.messages()[0][0], 0)


class AnyValueTest(unittest.TestCase):
    """Every value in place of every argument."""

    def is_accepted(self, word, place, thing):
        if place == "client":
            return isinstance(thing, str) and thing in ("p", "q")
        if place in ("first", "second") or word in ("read", "publish"):
            return isinstance(thing, str) and thing == "x"
        if place == "key":
            return isinstance(thing, str) and thing in ("a", "abcdef")
        return type(thing) is int and 0 <= thing < 7

    def test_all_operations(self):
        wrong = {"client": "UnknownClient", "first": "UnknownKey", "second": "UnknownKey", "key": "InvalidName",
                 "value": "InvalidValue", "factor": "InvalidValue"}
        for word, (arguments, _) in OPERATIONS.items():
            randomness = tuple((name, (1, 2, 3) * 9) for name in ("a", "b", "c", "d", "p", "q"))
            start = stored(FOUR, ("d",), randomness)
            before = state_of(start, FOUR)
            for place in arguments:
                for thing in any_values():
                    network = copy.deepcopy(start)
                    kept = copy.deepcopy(thing)
                    result = outcome(lambda: getattr(network, word)(**dict(arguments, **{place: thing})))
                    self.assertEqual(repr(thing), repr(kept))
                    if self.is_accepted(word, place, thing):
                        self.assertEqual(result[0], "returned", (word, place, thing))
                        continue
                    error = "UnknownKey" if place == "key" and word in ("read", "publish") else wrong[place]
                    self.assertEqual((result[0], len(result[1])), (error, 1), (word, place, thing))
                    self.assertIs(list(result[1].values())[0], thing)
                    self.assertEqual(state_of(network, FOUR), before)

    def test_names_in_form_that_do_not_exist(self):
        network = stored()
        self.assertEqual(outcome(lambda: network.read("r", "x")), ("UnknownClient", {"name": "r"}))
        self.assertEqual(outcome(lambda: network.read("d", "x")), ("UnknownClient", {"name": "d"}))
        self.assertEqual(outcome(lambda: network.read("p", "xx")), ("UnknownKey", {"name": "xx"}))

    def test_keys(self):
        network = Network(FOUR, (), (("p", (0,) * 99),))
        for key in ("a", "p", "abcdef", "zzzzzz", "q"):
            network.store("p", key, 1)
        for key in ("", "abcdefg", "A", "a1", "a b", "a\n", b"a", ("a",), None):
            self.assertEqual(outcome(lambda: network.store("p", key, 1)), ("InvalidName", {"value": key}))
        self.assertEqual(network.stored_keys(), ("a", "abcdef", "p", "q", "zzzzzz"))

    def test_a_boolean_is_no_value(self):
        network = stored()
        for thing in (True, False):
            self.assertEqual(outcome(lambda: network.store("q", "y", thing)), ("InvalidValue", {"value": thing}))
            self.assertEqual(outcome(lambda: network.scale("q", "y", thing, "x")), ("InvalidValue", {"value": thing}))


if __name__ == "__main__":
    unittest.main()
