"""Point 15: what a network is made of, and what it refuses."""

import copy
import itertools
import unittest

from lotkept.errors import Conflict, InvalidFaulty, InvalidRandomness, InvalidScheme, LotkeptError
from lotkept.networks import Network
from lotkept.schemes import is_scheme, require_storage
from tests.any_values import any_values
from tests.forgeries import supports
from tests.helpers import FOUR, THREE, TWO, outcome, subsets

NO_STORAGE = (7, ("a", "b"), ("p",), (("a",), ("b",)), (("a",), ("b",)))
UNEVEN = (7, ("a", "b", "c", "d", "e", "f"), ("p", "q"), (("a", "b"), ("c", "d")), (("a", "b"), ("c",)))


def refusal(scheme, faulty, randomness):
    """The class of the error that is raised, or None."""
    try:
        Network(scheme, faulty, randomness)
    except LotkeptError as error:
        return type(error)
    return None


class NetworkArgumentsTest(unittest.TestCase):
    def test_by_position_and_by_name(self):
        for network in (
            Network(FOUR, ("d",), (("p", (1, 2, 3)),)),
            Network(scheme=FOUR, faulty=("d",), randomness=(("p", (1, 2, 3)),)),
            Network(FOUR, randomness=(("p", (1, 2, 3)),), faulty=("d",)),
        ):
            self.assertEqual((network.remaining("p"), network.remaining("a"), len(network)), (3, 0, 0))

    def test_a_new_network_is_empty(self):
        network = Network(THREE, (), ())
        self.assertEqual((network.stored_keys(), len(network), network.messages()), ((), 0, ()))
        self.assertEqual((network.exposed(), network.disputes()), ((), ()))
        counts = network.round_count(), network.operation_count(), network.incident_count()
        self.assertEqual(counts, (0, 0, 0))
        self.assertEqual(network.view(("a", "p")), ((), (("a", ()), ("p", ()))))

    def test_every_value_as_the_scheme(self):
        for thing in any_values():
            before = copy.deepcopy(thing)
            self.assertIs(refusal(thing, (), ()), InvalidScheme, thing)
            self.assertEqual(repr(thing), repr(before))

    def test_every_value_as_a_part_of_the_scheme(self):
        for at, thing in itertools.product(range(5), any_values()):
            scheme = THREE[:at] + (thing,) + THREE[at + 1:]
            expected = InvalidScheme
            if is_scheme(scheme):
                expected = None if supports(require_storage, scheme) else Conflict
            self.assertIs(refusal(scheme, (), ()), expected, scheme)

    def test_a_scheme_without_storage(self):
        for faulty, randomness in (((), ()), (("a",), ()), (None, None)):
            with self.assertRaises(Conflict) as caught:
                Network(NO_STORAGE, faulty, randomness)
            self.assertEqual(caught.exception.sets, (("a",), ("a",), ("b",)))

    def test_a_scheme_without_multiplication_is_accepted(self):
        self.assertIsNone(refusal((7, ("a", "b"), ("p",), (("a",), ("b",)), ((),)), (), ()))

    def test_every_value_as_the_faulty_parties(self):
        for thing in any_values():
            before = copy.deepcopy(thing)
            expected = None if thing in ((), ("a",)) and isinstance(thing, tuple) else InvalidFaulty
            self.assertIs(refusal(FOUR, thing, ()), expected, thing)
            self.assertEqual(repr(thing), repr(before))

    def test_all_sets_of_parties_as_faulty_ones(self):
        for scheme in (TWO, THREE, FOUR, UNEVEN):
            for faulty in subsets(sorted(scheme[1] + scheme[2])):
                servers = {party for party in faulty if party in scheme[1]}
                fits = any(servers <= set(fault) for fault in scheme[4])
                self.assertIs(refusal(scheme, faulty, ()), None if fits else InvalidFaulty, (scheme, faulty))

    def test_other_faulty_parties(self):
        for faulty in (("q", "p"), ("p", "p"), ["p"], "p", ("x",), ("a", "x"), ("p", None), {"p": 1}, ("p", 1), None):
            self.assertIs(refusal(FOUR, faulty, ()), InvalidFaulty, faulty)

    def test_every_value_as_the_randomness(self):
        for thing in any_values():
            before = copy.deepcopy(thing)
            expected = None if thing == () and isinstance(thing, tuple) else InvalidRandomness
            self.assertIs(refusal(FOUR, (), thing), expected, thing)
            self.assertEqual(repr(thing), repr(before))

    def test_every_value_as_a_part_of_the_randomness(self):
        names = ("a", "b", "c", "d", "p", "q")
        for thing in any_values():
            numbers = thing if isinstance(thing, tuple) else (None,)
            fits = all(type(number) is int and number >= 0 for number in numbers)
            self.assertIs(refusal(FOUR, (), (("p", thing),)), None if fits else InvalidRandomness, thing)
            fits = type(thing) is int and thing >= 0
            self.assertIs(refusal(FOUR, (), (("p", (1, thing)),)), None if fits else InvalidRandomness, thing)
            fits = isinstance(thing, str) and thing in names
            self.assertIs(refusal(FOUR, (), ((thing, ()),)), None if fits else InvalidRandomness, thing)
            self.assertIs(refusal(FOUR, (), (("p", ()), thing)), InvalidRandomness, thing)
            self.assertIs(refusal(FOUR, (), (("p", (), thing),)), InvalidRandomness, thing)

    def test_randomness(self):
        good = (
            (), (("p", ()),), (("a", (0,)), ("p", (10 ** 39,)), ("q", ())), (("a", (5,)), ("b", (1,)), ("q", (3,) * 99)),
        )
        for randomness in good:
            self.assertIsNone(refusal(FOUR, (), randomness), randomness)
        bad = (
            (("q", ()), ("p", ())), (("p", ()), ("p", ())), (("p", (1,)), ("p", (2,))), (("x", ()),), (("p",),), ("p",),
            [("p", ())], (["p", ()],), (("p", []),), (("p", [1]),), (("p", (-1,)),), (("p", (True,)),), (("p", 1),),
            (("p", "1"),), {"p": (1,)}, (("p", (1, None)),), (("p", ("1",)),), ("p", (1,)), None, 0, (("", ()),),
        )
        for randomness in bad:
            self.assertIs(refusal(FOUR, (), randomness), InvalidRandomness, randomness)

    def test_the_order_of_the_errors(self):
        bad_faulty, bad_numbers = ("a", "b"), (("p", (-1,)),)
        self.assertIs(refusal(None, bad_faulty, bad_numbers), InvalidScheme)
        self.assertIs(refusal((4,) + NO_STORAGE[1:], bad_faulty, bad_numbers), InvalidScheme)
        self.assertIs(refusal(NO_STORAGE, bad_faulty, bad_numbers), Conflict)
        self.assertIs(refusal(NO_STORAGE, (), bad_numbers), Conflict)
        self.assertIs(refusal(FOUR, bad_faulty, bad_numbers), InvalidFaulty)
        self.assertIs(refusal(FOUR, ("a",), bad_numbers), InvalidRandomness)
        self.assertIs(refusal(FOUR, bad_faulty, ()), InvalidFaulty)

    def test_random_numbers_are_used_in_order_and_once(self):
        network = Network(FOUR, ("d",), (("p", (8, 2, 3, 4, 10 ** 39, 6, 0)), ("q", (5, 5, 5))))
        network.store("p", "x", 0)
        self.assertEqual(network.shares_at("a", "x"), (None, 2, 3, 1))
        self.assertEqual(network.shares_at("b", "x"), (1, None, 3, 1))
        network.store("q", "y", 1)
        network.store("p", "z", 0)
        self.assertEqual(network.shares_at("d", "z"), (4, 10 ** 39 % 7, 6, None))
        self.assertEqual((network.remaining("p"), network.remaining("q"), network.remaining("d")), (1, 0, 0))
        self.assertEqual(network.view(("p", "q"))[1], (("p", (8, 2, 3, 4, 10 ** 39, 6)), ("q", (5, 5, 5))))
        self.assertEqual(outcome(lambda: network.store("p", "u", 0)), ("RandomnessExhausted", {"party": "p"}))

    def test_silent_faulty_parties_use_their_random_numbers_too(self):
        network = Network(FOUR, ("p",), (("p", (1, 2, 3, 4)),))
        network.store("p", "x", 5, overrides=tuple((turn, "p", ()) for turn in range(1, 6)))
        self.assertEqual((network.remaining("p"), network.view(("p",))[1]), (1, (("p", (1, 2, 3)),)))


if __name__ == "__main__":
    unittest.main()
