"""The modules together: long runs of random operations, told of in every way that the program has."""

import copy
import random
import unittest

from lotkept.claims import claim_holds
from lotkept.console import Console
from lotkept.equivalence import equivalent_scenario
from lotkept.errors import NotEquivalent
from lotkept.log_checks import first_deviation
from lotkept.logs import party_log
from lotkept.networks import Network
from lotkept.scenarios import is_scenario, run_scenario
from lotkept.scheme_text import format_scheme, parse_scheme
from tests.forgeries import random_case
from tests.helpers import FOUR, numbers_for, state_of
from tests.oracle import same
from tests.test_console import command_of
from tests.twins import random_observers, random_values

NAMES = {
    "store": ("client", "key", "value"), "add": ("client", "key", "first", "second"),
    "scale": ("client", "key", "factor", "first"), "multiply": ("client", "key", "first", "second"),
    "read": ("client", "key"), "publish": ("client", "key"),
}


class AgreementTest(unittest.TestCase):
    def by_name(self, scenario):
        """A network that runs a scenario, with all arguments by name."""
        network = Network(randomness=scenario[2], faulty=scenario[1], scheme=scenario[0])
        for word, arguments, overrides in scenario[3]:
            getattr(network, word)(overrides=overrides, **dict(zip(NAMES[word], arguments)))
        return network

    def check_network(self, scenario):
        before = copy.deepcopy(scenario)
        scheme = parse_scheme(format_scheme(scenario[0]))
        self.assertTrue(same(scheme, scenario[0]))
        self.assertTrue(is_scenario(scenario))
        network = run_scenario(scenario)
        self.assertEqual(state_of(network, scheme), state_of(self.by_name(scenario), scheme))
        self.assertEqual(repr(scenario), repr(before))
        return network

    def check_logs(self, scenario, network):
        for party in scenario[0][1] + scenario[0][2]:
            log = party_log(network, party)
            found = first_deviation(scenario[0], party, log)
            if party not in scenario[1]:
                self.assertIsNone(found)
            sent = [row for entry in log for row in entry[3]]
            self.assertEqual(sum(len(row[1]) for row in sent), sum(row[2] == party for row in network.messages()))
            numbers = dict(scenario[2])[party]
            used = len(numbers) - network.remaining(party)
            self.assertEqual(sum((row[0] for row in sent), ()), numbers[:used])
            self.assertEqual(len(sent), network.round_count())

    def check_claims(self, scenario, network):
        for key in network.stored_keys():
            self.assertTrue(claim_holds(("value", scenario, key, network.expected_value(key))))
        self.assertTrue(claim_holds(("exposed", scenario, network.exposed())))
        state = (network.exposed(), network.disputes())
        self.assertTrue(claim_holds(("faulty", scenario[0]) + state + (network.exposed(),)))

    def check_equivalent(self, chance, scenario, network):
        observers = random_observers(chance, scenario[0], scenario[1])
        values = random_values(chance, scenario, observers)
        try:
            other = equivalent_scenario(scenario, observers, values)
        except NotEquivalent:
            return
        second = run_scenario(other)
        for party in observers:
            # What a party knows is what it sees: the logs of observers do not differ.
            self.assertTrue(same(party_log(network, party), party_log(second, party)))
        self.assertTrue(claim_holds(("equivalent", scenario, observers, values, other)))
        self.check_logs(other, second)

    def test_random_scenarios(self):
        for seed in range(60):
            chance = random.Random(seed)
            with self.subTest(seed=seed):
                scenario = random_case(chance, 12, chance.random() < 0.5)
                network = self.check_network(scenario)
                self.check_logs(scenario, network)
                self.check_claims(scenario, network)
                self.check_equivalent(chance, scenario, network)

    def test_as_many_operations_as_there_may_be(self):
        for seed in range(6):
            chance = random.Random(seed)
            with self.subTest(seed=seed):
                scenario = random_case(chance, 30, True)
                network = self.check_network(scenario)
                self.assertEqual(network.operation_count(), 30)
                self.check_logs(scenario, network)
                self.check_claims(scenario, network)

    def test_consoles_without_overrides(self):
        for seed in range(30):
            chance = random.Random(seed)
            scheme, _, randomness, operations = random_case(chance, 15, chance.random() < 0.5, honest=True)
            console = Console(scheme, (), randomness)
            with self.subTest(seed=seed):
                for word, arguments, _ in operations:
                    console.run(command_of(word, arguments))
                scenario = (scheme, (), randomness, tuple(step[:2] + ((),) for step in operations))
                self.assertEqual(state_of(console.network(), scheme), state_of(run_scenario(scenario), scheme))
                for party in scheme[1] + scheme[2]:
                    log = party_log(console.network(), party)
                    self.assertTrue(same(log, party_log(run_scenario(scenario), party)))
                    self.assertIsNone(first_deviation(scheme, party, log))


class GeneralRuleTest(unittest.TestCase):
    def test_the_same_call_returns_the_same(self):
        forged = ((1, "d", (("p", ["a"]),)),)
        scenario = (FOUR, ("d",), numbers_for(FOUR, 60), (
            ("store", ("p", "x", 4), forged), ("multiply", ("q", "y", "x", "x"), forged), ("publish", ("p", "x"), forged),
        ))
        network = run_scenario(scenario)
        log = party_log(network, "p")
        for call in (
            lambda: party_log(network, "p"), lambda: first_deviation(FOUR, "d", party_log(network, "d")),
            lambda: equivalent_scenario(scenario, ("d", "p", "q"), ()), lambda: claim_holds(("value", scenario, "x", 4)),
            lambda: format_scheme(FOUR), lambda: parse_scheme(format_scheme(FOUR)), lambda: network.history(),
            lambda: state_of(run_scenario(scenario), FOUR),
        ):
            self.assertTrue(same(call(), call()))
        self.assertTrue(same(party_log(network, "p"), log))


if __name__ == "__main__":
    unittest.main()
