"""Point 24: claims."""

import copy
import random
import unittest

from lotkept.claims import claim_holds
from lotkept.equivalence import equivalent_scenario
from lotkept.errors import NoCorrectValue, NotEquivalent
from lotkept.faults import identify_faulty
from lotkept.reports import correct_value
from lotkept.scenarios import run_scenario
from tests.any_values import any_values
from tests.forgeries import random_case, random_scheme
from tests.helpers import FOUR, THREE, TWO
from tests.oracle import same
from tests.places import at_place, places, put
from tests.twins import random_observers, random_values

NO_STORAGE = (7, ("a", "b"), ("p",), (("a",), ("b",)), (("a",), ("b",)))
NO_PRODUCTS = (7, ("a", "b"), ("p", "q"), (("a",), ("b",)), ((),))
SCENARIO = (
    FOUR, ("d",), (("p", (1, 2, 3)), ("q", (4, 5, 6))),
    (("store", ("p", "x", 5), ()), ("store", ("q", "y", 1), ()), ("publish", ("q", "y"), ((1, "d", ()),))),
)
SMALL = (THREE, (), (("p", (3, 2)),), (("store", ("p", "x", 1), ()),))
OTHER = (THREE, (), (("p", (4, 2)),), (("store", ("p", "x", 2), ()),))
REPORTS = (("b", 1), ("c", 1), ("d", 5))
DISPUTES = (("a", "b"), ("a", "c"))

# One of each kind, with 0 or 1 wherever that can be, which False and True are not.
CLAIMS = (
    ("conflict", NO_STORAGE, (("a",), ("a",), ("b",))),
    ("correct", FOUR, 0, REPORTS, 1),
    ("faulty", FOUR, (), DISPUTES, ("a",)),
    ("value", SMALL, "x", 1),
    ("exposed", SCENARIO, ("d",)),
    ("equivalent", SMALL, ("a",), (2,), OTHER),
)


class ClaimTest(unittest.TestCase):
    def check(self, thing, expected):
        before = copy.deepcopy(thing)
        self.assertIs(claim_holds(thing), expected, thing)
        self.assertEqual(repr(thing), repr(before))

    def holds(self, *thing):
        self.check(thing, True)

    def fails(self, *things):
        for thing in things:
            self.check(thing, False)


class EveryClaimTest(ClaimTest):
    def test_one_of_each_kind(self):
        for claim in CLAIMS:
            self.check(claim, True)
            self.assertIs(claim_holds(thing=claim), True)

    def test_parts_missing_and_added_and_other_words(self):
        words = [claim[0] for claim in CLAIMS]
        for claim in CLAIMS:
            self.fails(claim[:-1], claim[1:], claim + ((),), claim + (None,), claim[:1], list(claim), (claim,), claim * 2)
            for word in words + ["Value", "values", "", None, True, 0, ("value",), ["value"], {}]:
                if word != claim[0]:
                    self.fails((word,) + claim[1:])

    def test_every_value(self):
        for thing in any_values():
            self.fails(thing)

    def test_every_value_at_every_place(self):
        for claim in CLAIMS:
            for place in places(claim):
                old = at_place(claim, place)
                for thing in any_values():
                    if not same(thing, old):
                        changed = put(claim, place, thing)
                        answer = claim_holds(changed)
                        self.assertIs(type(answer), bool)
                        if answer:
                            self.assertTrue(self.may_hold(claim, place), changed)

    def may_hold(self, claim, place):
        """Whether a claim may stay true if this place is changed."""
        # A part of a scheme, a random number, a report or a part of a state may be another one; what is claimed may not.
        if claim[0] == "equivalent":
            # Random numbers become less than the prime, and no observer sees less than one.
            return place[:2] == (1, 2) or place == (2,)
        return place[0] == 1 or (claim[0], place[0]) in (("correct", 3), ("faulty", 2), ("faulty", 3))

    def test_wrong_kinds_at_every_place(self):
        for claim in CLAIMS:
            for place in places(claim):
                old = at_place(claim, place)
                others = []
                if type(old) is int:
                    others = [str(old), (old,), -1 - old] + ([bool(old)] if old in (0, 1) else [])
                elif isinstance(old, str):
                    others = [old.upper(), old + " ", (old,), [old], None]
                elif isinstance(old, tuple):
                    others = [list(old), dict.fromkeys(range(len(old)))]
                self.fails(*[put(claim, place, other) for other in others])


class ConflictTest(ClaimTest):
    def test_storage_and_multiplication(self):
        self.holds("conflict", NO_STORAGE, (("a",), ("a",), ("b",)))
        self.holds("conflict", NO_PRODUCTS, (("a",), ("b",), ()))
        # This scheme supports neither, and the two have different sets.
        both = (7, ("a", "b", "c"), ("p",), (("a", "b"), ("c",)), (("a",), ("c",)))
        self.holds("conflict", both, (("a", "b"), ("a",), ("c",)))
        self.holds("conflict", both, (("a", "b"), ("a", "b"), ("c",)))

    def test_other_sets(self):
        for sets in (
            (("a",), ("b",), ("b",)), (("b",), ("a",), ("a",)), (("a",), ("b",), ("a",)), (("a",), ("a",)), (), None, True,
            [["a"], ["a"], ["b"]], (["a"], ["a"], ["b"]), [("a",), ("a",), ("b",)], (("a",), ("a",), ("b",), ()),
        ):
            self.fails(("conflict", NO_STORAGE, sets))
        self.fails(("conflict", NO_PRODUCTS, (("a",), (), ("b",))))

    def test_schemes_without_conflict(self):
        for scheme in (TWO, THREE, FOUR):
            for sets in (None, (), (("a",), ("a",), ("b",)), False):
                self.fails(("conflict", scheme, sets))

    def test_what_is_not_a_scheme(self):
        sets = (("a",), ("a",), ("b",))
        self.fails(
            ("conflict", (4,) + NO_STORAGE[1:], sets), ("conflict", list(NO_STORAGE), sets), ("conflict", NO_STORAGE[:4], sets),
            ("conflict", None, sets),
        )


class CorrectTest(ClaimTest):
    def test_values(self):
        self.holds("correct", FOUR, 0, (("b", 4), ("c", 4), ("d", 5)), 4)
        self.holds("correct", FOUR, 3, (("a", 0), ("b", 0)), 0)
        self.holds("correct", THREE, 0, (("b", 6), ("c", 6)), 6)
        self.fails(*[("correct", FOUR, 0, (("b", 4), ("c", 4), ("d", 5)), value) for value in range(7) if value != 4])

    def test_no_correct_value(self):
        for value in list(range(-1, 8)) + [None]:
            self.fails(("correct", FOUR, 0, (("b", 4), ("c", 5)), value), ("correct", FOUR, 0, (), value))

    def test_wrong_reports(self):
        for reports in (
            (("c", 1), ("b", 1)), (("b", 1), ("b", 1), ("c", 1)), (("b", 1), ("c", 1), ("c", 2)), (("a", 1), ("b", 1), ("c", 1)),
            (("b", 1), ("c", True)), (("b", True), ("c", 1)), (("b", 1), ("c", 1), ("d", 7)), (("b", 1), ("c", 1), ("p", 1)),
            (("b", 1), ("c", 1), ("d", -1)), (("b", 1), ("c", 1), ("d",)), (("b", 1), ("c", 1), ("d", 1, 1)), "b1",
            [("b", 1), ("c", 1)], (["b", 1], ["c", 1]), (("b", 1), ("c", 1), ("d", None)), (("b", 1), ("c", 1), (["d"], 1)), None,
        ):
            self.fails(("correct", FOUR, 0, reports, 1))
        self.fails(("correct", FOUR, 0, (("b", 8), ("c", 8)), 8), ("correct", FOUR, 0, (("b", 1), ("c", 1)), True))

    def test_wrong_indexes_and_schemes(self):
        for index in (4, -1, -4, False, "0", None, (0,), [0], 10 ** 39):
            self.fails(("correct", FOUR, index, REPORTS, 1))
        self.fails(("correct", NO_STORAGE, 0, (("b", 1),), 1), ("correct", (4,) + FOUR[1:], 0, REPORTS, 1))

    def test_random_reports(self):
        held = 0
        for seed in range(150):
            chance = random.Random(seed)
            scheme = random_scheme(chance, False)
            index = chance.randrange(len(scheme[3]))
            holders = [server for server in scheme[1] if server not in scheme[3][index]]
            reports = tuple((holder, chance.choice((0, 0, 0, 1))) for holder in holders if chance.random() < 0.9)
            try:
                expected = correct_value(scheme, index, reports)
            except NoCorrectValue:
                expected = None
            for value in (0, 1):
                held += value == expected
                self.check(("correct", scheme, index, reports, value), value == expected)
        self.assertGreater(held, 30)


class FaultyTest(ClaimTest):
    def test_parties(self):
        self.holds("faulty", FOUR, (), (("a", "b"),), ())
        self.holds("faulty", FOUR, ("p",), (("a", "p"),), ("p",))
        self.holds("faulty", FOUR, ("a", "b"), (), ("a", "b", "c", "d"))
        for parties in ((), ("b",), ("a", "b"), ("a", "p"), ["a"], None, "a", ("a", "a"), {"a": 1}):
            self.fails(("faulty", FOUR, (), DISPUTES, parties))

    def test_wrong_states(self):
        for exposed in (["a"], ("b", "a"), ("a", "a"), ("x",), None, "a", (None,), ("A",)):
            self.fails(("faulty", FOUR, exposed, (), ("a",)), ("faulty", FOUR, exposed, (), exposed))
        for disputes in (
            (("b", "a"), ("a", "c")), (("a", "c"), ("a", "b")), DISPUTES + DISPUTES[1:], (("a", "b"), ("a", "c"), ("p", "q")),
            (("a", "b"), ("a", "c"), ("c", "x")), (("a", "b"), ("a", "c"), ("d", "d")), list(DISPUTES),
            (["a", "b"], ["a", "c"]), (("a", "b"), ("a", "c"), ("b",)), (("a", "b"), ("a", "b", "c"), ("a", "c")), None,
            (("a", "b"), ("a", "c"), ("b", "c", "d")), (("a", "b"), ("a", "c"), None), (("a", "b"), ("a", "c"), ("d", "c")),
        ):
            self.fails(("faulty", FOUR, (), disputes, ("a",)))
        self.fails(("faulty", NO_STORAGE, (), (), ()), ("faulty", NO_STORAGE, (), (), ("a", "b")), ("faulty", None, (), (), ()))

    def test_random_states(self):
        for seed in range(150):
            chance = random.Random(seed)
            scheme = random_scheme(chance, False)
            parties = sorted(scheme[1] + scheme[2])
            exposed = tuple(party for party in parties if chance.random() < 0.2)
            disputes = tuple(
                (first, second) for first in parties for second in parties
                if first < second and (first in scheme[1] or second in scheme[1]) and chance.random() < 0.2
            )
            expected = identify_faulty(scheme, exposed, disputes)
            self.holds("faulty", scheme, exposed, disputes, expected)
            for party in parties:
                others = set(expected) ^ {party}
                self.fails(("faulty", scheme, exposed, disputes, tuple(sorted(others))))


class ScenarioClaimTest(ClaimTest):
    def test_values(self):
        self.holds("value", SCENARIO, "x", 5)
        self.holds("value", SCENARIO, "y", 1)
        self.fails(*[("value", SCENARIO, "x", value) for value in (4, 6, 12, -2, None, "5", (5,), True)])
        self.fails(*[("value", SCENARIO, "y", value) for value in (True, 0, 8, "1", None, [1])])
        self.fails(*[("value", SCENARIO, key, 5) for key in ("z", "", "X", None, True, ("x",), ["x"], {"x": 5})])
        zero = SMALL[:3] + (SMALL[3] + (("scale", ("p", "x", 0, "x"), ()),),)
        self.holds("value", zero, "x", 0)
        self.fails(("value", zero, "x", False), ("value", zero, "x", 7))

    def test_exposed(self):
        self.holds("exposed", SCENARIO, ("d",))
        self.holds("exposed", SMALL, ())
        for parties in ((), ("c",), ("c", "d"), ("d", "p"), ["d"], None, "d", ("d", "d")):
            self.fails(("exposed", SCENARIO, parties))
        self.fails(("exposed", SMALL, ("a",)), ("exposed", SMALL, []), ("exposed", SMALL, None), ("exposed", SMALL, False))

    def test_scenarios_that_raise_errors(self):
        for step in (
            ("read", ("p", "u"), ()), ("read", ("a", "x"), ()), ("store", ("p", "X", 1), ()), ("store", ("p", "y", 7), ()),
            ("store", ("p", "y", 1), ()), ("read", ("p", "x"), None), ("multiply", ("p", "y", "x", "x"), ()),
        ):
            scenario = SMALL[:3] + (SMALL[3] + (step,),)
            other = OTHER[:3] + (OTHER[3] + (step,),)
            self.fails(
                ("value", scenario, "x", 1), ("exposed", scenario, ()), ("equivalent", scenario, ("a",), (2,), other),
                ("equivalent", scenario, ("a",), (1,), scenario),
            )
        unfit = (NO_PRODUCTS, (), (("p", (1,)),), (("store", ("p", "x", 1), ()),))
        self.holds("value", unfit, "x", 1)
        unfit = unfit[:3] + (unfit[3] + (("multiply", ("p", "y", "x", "x"), ()),),)
        self.fails(("value", unfit, "x", 1), ("exposed", unfit, ()))

    def test_schemes_without_storage(self):
        scenario = (NO_STORAGE, (), (), ())
        self.fails(
            ("exposed", scenario, ()), ("value", scenario, "x", 0), ("equivalent", scenario, (), (), scenario),
            ("exposed", (FOUR, ("a", "b"), (), ()), ()), ("exposed", (FOUR, (), None, ()), ()),
        )
        self.holds("exposed", (FOUR, (), (), ()), ())

    def test_equivalent_scenarios(self):
        self.holds("equivalent", SMALL, ("a",), (2,), OTHER)
        self.holds("equivalent", OTHER, ("a",), (1,), SMALL)
        self.holds("equivalent", SMALL, ("a",), (1,), SMALL)
        self.holds("equivalent", SMALL, ("p",), (), SMALL)
        self.holds("equivalent", SMALL, (), (2,), OTHER)
        self.holds("equivalent", SMALL, ("c",), (2,), SMALL[:3] + OTHER[3:])
        self.fails(
            ("equivalent", SMALL, ("a",), (2,), SMALL), ("equivalent", SMALL, ("a",), (3,), OTHER),
            ("equivalent", SMALL, ("b",), (2,), OTHER), ("equivalent", SMALL, ("c",), (2,), OTHER),
            ("equivalent", SMALL, ("p",), (2,), OTHER), ("equivalent", SMALL, ("p",), (1,), SMALL),
            ("equivalent", SMALL, ("a",), (), OTHER), ("equivalent", SMALL, ("a",), (2, 2), OTHER),
            ("equivalent", SMALL, ("a",), [2], OTHER), ("equivalent", SMALL, ("a",), (9,), OTHER),
            ("equivalent", SMALL, ("a",), 2, OTHER), ("equivalent", SMALL, ["a"], (2,), OTHER),
            ("equivalent", SMALL, ("a", "b"), (2,), OTHER), ("equivalent", SMALL, None, (2,), OTHER),
            ("equivalent", SMALL, ("a",), (True,), SMALL), ("equivalent", SMALL, ("a",), (None,), SMALL),
            ("equivalent", SMALL, ("x",), (2,), OTHER), ("equivalent", SMALL, ("a",), (2,), None),
        )
        # A faulty party that does not observe, and a result that shows more.
        self.fails(("equivalent", SCENARIO, ("a",), (5, 1), SCENARIO), ("equivalent", SCENARIO, (), (5, 1), SCENARIO))
        self.holds("equivalent", SCENARIO, ("d",), (5, 1), SCENARIO)
        changed = put(put(SCENARIO, (3, 1, 1, 2), 2), (2, 1, 1), (4, 5, 6))
        self.fails(("equivalent", SCENARIO, ("d",), (5, 2), changed))

    def test_payloads_with_lists_and_dicts(self):
        def scenario(payload, number=4):
            forged = ((1, "d", (("p", payload),)),)
            steps = (("store", ("q", "x", number), forged),)
            return FOUR, ("d",), (("q", (1, 2, 3)),), steps

        payload = ["a", {"n": 1, 2: [True, (None,)]}, 0]
        same_payload = ["a", {2: [True, (None,)], "n": 1}, 0]
        self.holds("equivalent", scenario(payload), ("d",), (4,), scenario(copy.deepcopy(payload)))
        self.holds("equivalent", scenario(payload), ("d",), (4,), scenario(same_payload))
        for other in (
            ["a", {"n": True, 2: [True, (None,)]}, 0], ["a", {"n": 1, 2: [1, (None,)]}, 0], tuple(payload), payload[:2],
            ["a", {"n": 1, 2: (True, (None,))}, 0], ["a", {"n": 1, 2: [True, [None]]}, 0], ["a", {"n": 1}, 0],
            ["a", {"n": 1, 2: [True, (None,)]}, False], ["a", {"n": 1, 2: [True, (None,)], "m": 1}, 0],
        ):
            self.fails(("equivalent", scenario(payload), ("d",), (4,), scenario(other)))

    def test_random_scenarios(self):
        equivalent = 0
        for seed in range(80):
            chance = random.Random(seed)
            with self.subTest(seed=seed):
                scenario = random_case(chance, 5, chance.random() < 0.2)
                network = run_scenario(scenario)
                for key in network.stored_keys():
                    value = network.expected_value(key)
                    self.holds("value", scenario, key, value)
                    self.fails(("value", scenario, key, (value + 1) % scenario[0][0]), ("value", scenario, "none", value))
                self.holds("exposed", scenario, network.exposed())
                more = tuple(sorted(set(network.exposed()) ^ {chance.choice(scenario[0][1])}))
                self.fails(("exposed", scenario, more))
                equivalent += self.check_equivalent(chance, scenario)
        self.assertGreater(equivalent, 10)

    def check_equivalent(self, chance, scenario):
        observers = random_observers(chance, scenario[0], scenario[1])
        values = random_values(chance, scenario, observers)
        try:
            other = equivalent_scenario(scenario, observers, values)
        except NotEquivalent:
            self.fails(("equivalent", scenario, observers, values, scenario))
            return False
        self.holds("equivalent", scenario, observers, values, other)
        self.fails(
            ("equivalent", scenario, observers, values + (0,), other), ("equivalent", scenario, observers, values, other[:3]),
            ("equivalent", scenario, observers, values, put(other, (2, 0, 1, 0), other[2][0][1][0] + 1)),
        )
        return not same(other, scenario)


if __name__ == "__main__":
    unittest.main()
