"""Point 20: equivalent scenarios."""

import copy
import random
import unittest

from lotkept.equivalence import equivalent_scenario
from lotkept.scenarios import is_scenario, run_scenario
from tests.any_values import any_values
from tests.forgeries import random_case, random_numbers
from tests.helpers import FIVE, FOUR, ONE_SHARE, THREE, TWO, numbers_for, outcome, zeros_for
from tests.oracle import same
from tests.twins import Twins, free_stores, random_observers, random_values

DENSE = (3, ("a", "b", "c", "d", "e"), ("p", "q"), FIVE[3][:4], FIVE[3][:4])
PAIRS = (7, ("a", "b", "c", "d", "e"), ("p", "q"), (("a", "b"), ("b", "c"), ("c", "d")), (("a",), ("b",)))


def by_twins(scenario, observers, values):
    """What the document tells of the other scenario, found by running both."""
    twins = Twins(*scenario[:3], observers)
    values = list(values)
    for at, (word, arguments, overrides) in enumerate(scenario[3]):
        if twins.shows_more(word, arguments):
            return "NotEquivalent", {"operation": at}
        others = arguments
        if word == "store" and arguments[0] not in observers:
            others = arguments[:2] + (values.pop(0),)
        twins.run(word, arguments, others, overrides)
    return "returned", twins.other_scenario()


class EquivalenceTest(unittest.TestCase):
    def check(self, scenario, observers, values):
        """Compare with the twins; returns the other scenario, or the index of the operation that shows more."""
        before = copy.deepcopy((scenario, observers, values))
        found = outcome(lambda: equivalent_scenario(scenario, observers, values))
        by_name = outcome(lambda: equivalent_scenario(values=values, scenario=scenario, observers=observers))
        expected = by_twins(scenario, observers, values)
        self.assertEqual(found[0], expected[0])
        self.assertTrue(same(found, expected), (found, expected))
        self.assertTrue(same(by_name, expected))
        self.assertEqual(repr((scenario, observers, values)), repr(before))
        if found[0] == "NotEquivalent":
            return found[1]["operation"]
        self.check_result(scenario, observers, values, found[1])
        return found[1]

    def check_result(self, scenario, observers, values, other):
        self.assertTrue(is_scenario(other))
        first, second = run_scenario(scenario), run_scenario(other)
        self.assertTrue(same(first.view(observers), second.view(observers)))
        for query in ("exposed", "disputes", "incident_count", "stored_keys"):
            self.assertEqual(getattr(first, query)(), getattr(second, query)())
        prime = scenario[0][0]
        places = free_stores(scenario, observers)
        self.assertEqual(tuple(other[3][at][1][2] for at in places), values)
        # Going back leads to the same random numbers, but for those that are now less than the prime.
        old = tuple(scenario[3][at][1][2] for at in places)
        back = equivalent_scenario(other, observers, old)
        self.assertTrue(same((back[:2], back[3]), (scenario[:2], scenario[3])))
        self.assertEqual([party for party, _ in back[2]], [party for party, _ in scenario[2]])
        for (_, numbers), (_, others), (_, given) in zip(back[2], other[2], scenario[2]):
            self.assertEqual(len(numbers), len(given))
            for number, changed, original in zip(numbers, others, given):
                self.assertIn(number, (original, original % prime))
                if changed == original or original < prime:
                    self.assertEqual(number, original)

    def test_values_that_stay_change_nothing(self):
        for scheme in (THREE, FOUR, TWO, ONE_SHARE):
            operations = (("store", ("p", "x", 5), ()), ("store", ("p", "y", 3), ()), ("publish", ("p", "x"), ()))
            scenario = (scheme, (), numbers_for(scheme, 20), operations)
            self.assertTrue(same(equivalent_scenario(scenario, (), (5, 3)), scenario))

    def test_nothing_to_change(self):
        for observers in ((), ("a",), ("p",), ("a", "p")):
            scenario = (THREE, (), (), ())
            self.assertEqual(self.check(scenario, observers, ()), scenario)
        operations = (("store", ("p", "x", 5), ()), ("publish", ("q", "x"), ()))
        scenario = (THREE, (), (("p", (3, 2)),), operations)
        self.assertTrue(same(self.check(scenario, ("p",), ()), scenario))

    def numbers_after(self, scheme, observers):
        """What becomes of the random numbers (50, 51, ..) of p, which stores 1 and then 2, when both grow by 3."""
        operations = (("store", ("p", "x", 1), ()), ("store", ("p", "y", 2), ()))
        numbers = tuple(range(50, 52 + 2 * (len(scheme[3]) - 1)))
        other = self.check((scheme, (), (("p", numbers),), operations), observers, (4, 5))
        return [after if after != before else None for before, after in zip(numbers, other[2][0][1])]

    def test_which_number_changes(self):
        # Two numbers are not used, so they never change.
        self.assertEqual(self.numbers_after(THREE, ("a",)), [53 % 7, None, 55 % 7, None, None, None])
        self.assertEqual(self.numbers_after(THREE, ("b",)), [None, 54 % 7, None, 56 % 7, None, None])
        self.assertEqual(self.numbers_after(THREE, ("c",)), [None] * 6)
        self.assertEqual(self.numbers_after(THREE, ("b", "q")), [None, 54 % 7, None, 56 % 7, None, None])
        self.assertEqual(self.numbers_after(THREE, ("q",)), [53 % 7, None, 55 % 7, None, None, None])
        self.assertEqual(self.numbers_after(THREE, ()), [53 % 7, None, 55 % 7, None, None, None])
        self.assertEqual(self.numbers_after(TWO, ()), [None, None])
        # Servers in several observer sets: the first set that contains them all counts.
        self.assertEqual(self.numbers_after(PAIRS, ("b",)), [53 % 7, None, 55 % 7, None, None, None])
        self.assertEqual(self.numbers_after(PAIRS, ("c",)), [None, 54 % 7, None, 56 % 7, None, None])
        self.assertEqual(self.numbers_after(PAIRS, ("b", "c")), [None, 54 % 7, None, 56 % 7, None, None])
        self.assertEqual(self.numbers_after(PAIRS, ("c", "d")), [None] * 6)

    def test_numbers_become_less_than_the_prime_only_if_they_change(self):
        operations = (("store", ("p", "x", 5), ()), ("store", ("q", "y", 1), ()), ("store", ("p", "z", 0), ()))
        randomness = (("p", (10 ** 38, 7, 7 * 10 ** 37, 8, 99)), ("q", (6, 10 ** 38)))
        other = self.check((THREE, (), randomness, operations), ("a",), (4, 1, 0))
        self.assertEqual(other[2], (("p", ((10 ** 38 - 1) % 7, 7, 7 * 10 ** 37, 8, 99)), ("q", (6, 10 ** 38))))
        other = self.check((THREE, (), randomness, operations), ("a",), (5, 0, 6))
        self.assertEqual(other[2], (("p", (10 ** 38, 7, 6, 8, 99)), ("q", (5, 10 ** 38))))
        self.assertEqual(other[3][1], ("store", ("q", "y", 0), ()))

    def test_products(self):
        operations = (("store", ("p", "x", 5), ()), ("multiply", ("p", "w", "x", "x"), ()))
        many = (15,) * 9
        scenario = (THREE, (), (("a", many), ("b", many), ("c", many), ("p", (3, 1))), operations)
        # The shares of x are 3, 1, 1 and become 4, 1, 1; the square of the first one stays 2 modulo 7.
        other = self.check(scenario, ("a",), (6,))
        changed = (15, 15, 2, 15, 2, 15, 15, 15, 15)
        self.assertEqual(other[2], (("a", many), ("b", changed), ("c", changed), ("p", (4, 1))))
        # With c as the observer nothing changes but the last shares.
        other = self.check(scenario, ("c",), (6,))
        self.assertEqual(other[2], scenario[2])
        # They become 3, 2, 1: a holds shares 1 and 2, c holds 0 and 1.
        other = self.check(scenario, ("b",), (6,))
        at_a = (15, (15 + 3) % 7, 15, (15 + 1) % 7, 15, (15 + 1) % 7, 15, 15, 15)
        at_c = (15, 15, 15, (15 + 3) % 7, 15, (15 + 3) % 7, 15, (15 + 3) % 7, 15)
        self.assertEqual(other[2], (("a", at_a), ("b", many), ("c", at_c), ("p", (3, 2))))

    def test_products_of_products_and_sums(self):
        operations = (
            ("store", ("p", "x", 5), ()), ("store", ("q", "y", 3), ()), ("add", ("q", "z", "x", "y"), ()),
            ("multiply", ("p", "z", "z", "x"), ()), ("scale", ("p", "x", 4, "z"), ()), ("store", ("p", "y", 6), ()),
            ("multiply", ("p", "z", "x", "y"), ()), ("add", ("p", "y", "y", "y"), ()),
            ("multiply", ("q", "y", "y", "z"), ()), ("read", ("q", "y"), ()),
        )
        for scheme in (THREE, FOUR, (7,) + DENSE[1:], ONE_SHARE):
            for observers in ((), ("p",)) + scheme[3]:
                scenario = (scheme, (), numbers_for(scheme, 300), operations)
                count = len(free_stores(scenario, observers))
                for values in ((0, 1, 2), (2, 2, 2)):
                    self.assertIsInstance(self.check(scenario, observers, values[:count]), tuple)

    def test_what_shows_more(self):
        store = ("store", ("p", "x", 5), ())
        other_store = ("store", ("q", "y", 3), ())
        zeros = zeros_for(FOUR, 100)

        def first(observers, values, *operations, faulty=()):
            return self.check((FOUR, faulty, zeros, (store, other_store) + operations), observers, values)

        publish, read = ("publish", ("q", "x"), ()), ("read", ("q", "x"), ())
        self.assertEqual(first((), (6, 3), publish), 2)
        self.assertEqual(first(("a",), (6, 3), read, publish), 3)
        self.assertIsInstance(first(("a",), (6, 3), read, ("read", ("p", "x"), ())), tuple)
        self.assertEqual(first(("q",), (6,), read, publish), 2)
        self.assertEqual(first(("a", "q"), (6,), ("publish", ("q", "y"), ()), ("read", ("q", "y"), ()), read), 4)
        self.assertIsInstance(first(("q",), (5,), read, publish), tuple)
        # A faulty client observes, too; nobody else needs to.
        self.assertEqual(first(("q",), (6,), read, faulty=("q",)), 2)
        self.assertIsInstance(first(("q",), (6,), ("read", ("p", "x"), ()), faulty=("q",)), tuple)
        # Sums and products of which the value stays, or differs.
        added = ("add", ("p", "z", "x", "y"), ())
        shown = ("publish", ("p", "z"), ())
        self.assertIsInstance(first((), (6, 2), added, shown), tuple)
        self.assertEqual(first((), (6, 3), added, shown), 3)
        times = ("multiply", ("p", "z", "x", "y"), ())
        self.assertEqual(first((), (6, 2), times, shown), 3)
        self.assertIsInstance(first((), (3, 5), times, shown), tuple)
        self.assertIsInstance(first((), (6, 0), times, ("scale", ("p", "x", 0, "x"), ()), publish), tuple)
        self.assertEqual(first((), (6, 3), ("scale", ("p", "x", 2, "x"), ()), publish), 3)
        # Keys that are replaced.
        again = ("store", ("p", "x", 5), ())
        self.assertIsInstance(first((), (6, 3, 5), again, publish), tuple)
        self.assertEqual(first((), (5, 3, 6), publish, again, publish), 4)
        # Only the first one is named, and what comes later does not count.
        self.assertEqual(first((), (5, 4), publish, ("publish", ("p", "y"), ()), publish, ("publish", ("q", "y"), ())), 3)

    def test_a_faulty_client_that_stores(self):
        forged = tuple((1, "p", ((to, ("share", ("p",), 1, 6)),)) for to in ("a",))
        operations = (("store", ("p", "x", 5), forged), ("store", ("q", "y", 2), ()), ("publish", ("q", "x"), ()))
        scenario = (FOUR, ("p",), numbers_for(FOUR, 20), operations)
        other = self.check(scenario, ("a", "p"), (3,))
        self.assertEqual(other[3][0], operations[0])
        self.assertEqual(other[2][4], scenario[2][4])

    def test_random_scenarios(self):
        kinds = {"tuple": 0, "int": 0}
        for seed in range(250):
            chance = random.Random(seed)
            with self.subTest(seed=seed):
                scenario = random_case(chance, 8, chance.random() < 0.4)
                observers = random_observers(chance, scenario[0], scenario[1])
                values = random_values(chance, scenario, observers)
                kinds[type(self.check(scenario, observers, values)).__name__] += 1
        self.assertGreater(min(kinds.values()), 30)

    def test_random_products(self):
        for seed in range(25):
            chance = random.Random(seed)
            with self.subTest(seed=seed):
                scheme = chance.choice((FOUR, DENSE, THREE, PAIRS))
                operations = [("store", (chance.choice("pq"), key, chance.randrange(scheme[0])), ()) for key in "xyz"]
                for _ in range(3):
                    keys = chance.choices("xyz", k=3)
                    word = chance.choice(("multiply", "add")) if scheme != PAIRS else "add"
                    operations.append((word, (chance.choice("pq"), *keys), ()))
                scenario = (scheme, (), random_numbers(chance, scheme, 150), tuple(operations))
                observers = random_observers(chance, scheme, ())
                values = random_values(chance, scenario, observers)
                self.assertIsInstance(self.check(scenario, observers, values), tuple)

    def test_the_result_has_no_list_in_common_with_the_argument(self):
        forged = ((1, "d", (("", ["hello", {"a": [1]}]),)),)
        operations = (("store", ("p", "x", 5), forged), ("read", ("p", "x"), forged))
        scenario = (FOUR, ("d",), numbers_for(FOUR, 9), operations)
        other = equivalent_scenario(scenario, ("d",), (6,))
        self.assertTrue(same(other[3][1], operations[1]))
        for _, _, overrides in other[3]:
            overrides[0][2][0][1][1]["a"].append(2)
        self.assertEqual(operations[0][2][0][2][0][1], ["hello", {"a": [1]}])


class ErrorsTest(unittest.TestCase):
    def check(self, scenario, observers, values, error, attributes):
        before = copy.deepcopy((scenario, observers, values))
        found = outcome(lambda: equivalent_scenario(scenario, observers, values))
        self.assertEqual(found, (error, attributes))
        self.assertEqual(repr((scenario, observers, values)), repr(before))

    def scenario(self, *operations, faulty=()):
        return FOUR, faulty, numbers_for(FOUR, 9), (("store", ("p", "x", 5), ()),) + operations

    def test_every_value_as_the_observers(self):
        scenario = self.scenario()
        for thing in any_values():
            if isinstance(thing, tuple) and thing in ((), ("a",)):
                self.assertEqual(equivalent_scenario(scenario, thing, (6,))[3][0][1][2], 6)
            else:
                self.check(scenario, thing, (6,), "InvalidObservers", {"value": thing})

    def test_other_observers(self):
        for observers in (("a", "b"), ("b", "a"), ("x",), ("a", "a"), ["a"], ("a", "q", "p"), ("a", None), "a", ("a", "z")):
            self.check(self.scenario(), observers, (6,), "InvalidObservers", {"value": observers})

    def test_a_faulty_party_that_does_not_observe(self):
        for faulty, observers in (
            (("d",), ()), (("d",), ("a",)), (("d",), ("a", "p")), (("q",), ()), (("q",), ("p",)), (("d", "q"), ("d",)),
            (("d", "q"), ("q",)), (("d", "p", "q"), ("d", "p")),
        ):
            for values in ((6,), ()):
                self.check(self.scenario(faulty=faulty), observers, values, "InvalidObservers", {"value": observers})

    def test_the_order_of_the_errors(self):
        publish = ("publish", ("q", "x"), ())
        fails = ("read", ("q", "y"), ())
        for observers in (None, ("a", "b"), ("a",), ()):
            scenario = self.scenario(publish, fails)
            self.check(scenario, observers, (6,), "UnknownKey", {"name": "y"})
        self.check(self.scenario(publish), ("a", "b"), (6,), "InvalidObservers", {"value": ("a", "b")})
        self.check(self.scenario(publish, faulty=("d",)), ("a",), (6,), "InvalidObservers", {"value": ("a",)})
        self.check(self.scenario(publish, faulty=("d",)), ("d",), (6,), "NotEquivalent", {"operation": 1})

    def test_a_run_that_fails(self):
        for step, error, attributes in (
            (("read", ("a", "x"), ()), "UnknownClient", {"name": "a"}),
            (("store", ("p", "", 0), ()), "InvalidName", {"value": ""}),
            (("store", ("p", "y", 7), ()), "InvalidValue", {"value": 7}),
            (("read", ("p", "x"), ((1, "d", ()),)), "InvalidOverrides", {"value": ((1, "d", ()),)}),
            (("multiply", ("p", "y", "x", "x"), ()), "RandomnessExhausted", {"party": "a"}),
        ):
            self.check(self.scenario(step), ("a",), (6, 0), error, attributes)


if __name__ == "__main__":
    unittest.main()
