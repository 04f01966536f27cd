"""Point 21: the logs of parties."""

import copy
import random
import unittest

from lotkept.logs import party_log
from lotkept.networks import Network
from lotkept.scenarios import run_scenario
from tests.forgeries import ROUNDS, random_case
from tests.helpers import FOUR, ONE_SHARE, THREE, TWO, network_of, numbers_for, state_of
from tests.oracle import same


def logs_of(scenario):
    """The logs of all parties, told from what the queries of a network tell before and after each operation."""
    scheme, faulty, randomness, operations = scenario
    network = Network(scheme, faulty, randomness)
    parties = scheme[1] + scheme[2]
    numbers = {party: () for party in parties}
    numbers.update(dict(randomness))
    logs = {party: [] for party in parties}
    for at, (word, arguments, overrides) in enumerate(operations):
        state = (network.exposed(), network.disputes())
        left = {party: network.remaining(party) for party in parties}
        getattr(network, word)(*arguments, overrides=overrides)
        rows = [row[1:] for row in network.messages() if row[0] == at]
        for party in parties:
            start = len(numbers[party]) - left[party]
            used = numbers[party][start:len(numbers[party]) - network.remaining(party)]
            rounds = []
            for turn in range(1, ROUNDS[word] + 1):
                now = [row[1:] for row in rows if row[0] == turn]
                rounds.append((
                    used if turn == 1 else (), tuple(row for row in now if row[0] == party),
                    tuple(row for row in now if row[1] == party or row[1] == ""),
                ))
            known = arguments[:2] + (None,) if word == "store" and arguments[0] != party else arguments
            logs[party].append((word, known, state, tuple(rounds)))
    return network, {party: tuple(log) for party, log in logs.items()}


class LogTest(unittest.TestCase):
    def check(self, scenario):
        network, logs = logs_of(scenario)
        before = state_of(network, scenario[0])
        for party, log in logs.items():
            self.assertTrue(same(party_log(network, party), log), party)
            self.assertTrue(same(party_log(party=party, network=run_scenario(scenario)), log), party)
        self.assertEqual(state_of(network, scenario[0]), before)

    def test_no_operation(self):
        for scheme in (TWO, THREE, FOUR):
            network = network_of(scheme)
            for party in scheme[1] + scheme[2]:
                self.assertEqual(party_log(network, party), ())

    def test_a_store(self):
        network = Network(THREE, (), (("p", (10, 2, 5)), ("q", (1, 1))))
        network.store("p", "x", 5)
        shares = tuple(("p", to, ("share", ("p",), k, n)) for k, to, n in (
            (0, "b", 3), (0, "c", 3), (1, "a", 2), (1, "c", 2), (2, "a", 0), (2, "b", 0),
        ))
        nothing = ((), (), ())
        self.assertEqual(party_log(network, "p"), (
            ("store", ("p", "x", 5), ((), ()), (((10, 2), shares, ()),) + (nothing,) * 4),
        ))
        self.assertEqual(party_log(network, "q"), (("store", ("p", "x", None), ((), ()), (nothing,) * 5),))
        echoes = (("a", "c", ("echo", ("p",), 1, 2)), ("a", "b", ("echo", ("p",), 2, 0)))
        heard = (("b", "a", ("echo", ("p",), 2, 0)), ("c", "a", ("echo", ("p",), 1, 2)))
        self.assertEqual(party_log(network, "a"), (
            ("store", ("p", "x", None), ((), ()), (((), (), (shares[2], shares[4])), ((), echoes, heard)) + (nothing,) * 3),
        ))

    def test_operations_without_rounds(self):
        network = network_of(TWO)
        network.store("p", "x", 5)
        network.add("p", "y", "x", "x")
        network.scale("p", "x", 0, "y")
        for party in ("a", "b", "p"):
            self.assertEqual(party_log(network, party)[1:], (
                ("add", ("p", "y", "x", "x"), ((), ()), ()), ("scale", ("p", "x", 0, "y"), ((), ()), ()),
            ))

    def test_only_stores_have_a_secret(self):
        network = network_of(ONE_SHARE)
        network.store("p", "x", 5)
        network.store("q", "y", 6)
        network.scale("p", "z", 3, "x")
        network.multiply("q", "z", "z", "y")
        network.read("p", "z")
        network.publish("q", "z")
        for party in ("a", "b", "p", "q"):
            first, second = [number if client == party else None for client, number in (("p", 5), ("q", 6))]
            self.assertEqual([entry[:2] for entry in party_log(network, party)], [
                ("store", ("p", "x", first)), ("store", ("q", "y", second)), ("scale", ("p", "z", 3, "x")),
                ("multiply", ("q", "z", "z", "y")), ("read", ("p", "z")), ("publish", ("q", "z")),
            ])
            self.assertEqual([len(entry[3]) for entry in party_log(network, party)], [5, 5, 0, 7, 1, 1])

    def test_a_faulty_party(self):
        sent = (("d", 1), ("", ["a"]), ("q", ("report", 0, 6)), ("a", None), ("", {"n": (True,)}))
        network = network_of(FOUR, ("d", "q"))
        network.store("q", "x", 5, overrides=((1, "q", ()),))
        network.read("q", "x", overrides=((1, "d", sent),))
        # A faulty client knows what it was asked to store, and its random numbers are used.
        first, second = party_log(network, "q")
        self.assertEqual((first[1], first[3][0]), (("q", "x", 5), ((5, 8, 11), (), ())))
        self.assertEqual(second[3][0][2][-3:], (("d", "", ["a"]), ("d", "q", ("report", 0, 6)), ("d", "", {"n": (True,)})))
        rows = tuple(("d",) + message for message in sent)
        self.assertEqual(party_log(network, "d")[1][3], (((), rows, (rows[0], rows[1], rows[4])),))
        self.assertEqual(party_log(network, "a")[1][3][0][2], (rows[1], rows[3], rows[4]))
        self.assertEqual(party_log(network, "p")[1][3][0][2], (rows[1], rows[4]))

    def test_the_state_before_each_operation(self):
        forged = ((3, "d", (("", ("complaint", ("p",), 0, 1)),)),)
        network = network_of(FOUR, ("d",))
        network.store("p", "x", 4, overrides=forged)
        network.read("q", "x")
        network.publish("p", "x", overrides=((1, "d", ()),))
        network.add("p", "y", "x", "x")
        states = [((), ()), ((), (("b", "d"),)), ((), (("b", "d"),)), (("d",), (("b", "d"),))]
        for party in FOUR[1] + FOUR[2]:
            self.assertEqual([entry[2] for entry in party_log(network, party)], states)

    def test_the_random_numbers_of_products(self):
        network = network_of(THREE)
        network.store("p", "x", 4)
        network.multiply("q", "y", "x", "x")
        network.multiply("q", "y", "y", "x")
        numbers = dict(numbers_for(THREE))
        for party in ("a", "b", "c"):
            for at, entry in enumerate(party_log(network, party)[1:]):
                rows = [row[0] for row in entry[3]]
                self.assertEqual(rows, [numbers[party][8 * at:8 * at + 8]] + [()] * 6)
        for party in ("p", "q"):
            self.assertEqual([row[0] for row in party_log(network, party)[1][3]], [()] * 7)

    def test_random_scenarios(self):
        for seed in range(100):
            chance = random.Random(seed)
            with self.subTest(seed=seed):
                self.check(random_case(chance, 6, chance.random() < 0.3))

    def test_a_log_has_no_list_in_common_with_the_network(self):
        network = network_of(FOUR, ("d",))
        network.store("p", "x", 5, overrides=((2, "d", (("a", [1]), ("", ("hello", {"a": [2]})))),))
        expected = copy.deepcopy(party_log(network, "a"))
        log = party_log(network, "a")
        self.assertEqual(log[0][3][1][2][-2:], (("d", "a", [1]), ("d", "", ("hello", {"a": [2]}))))
        log[0][3][1][2][-2][2].append(5)
        log[0][3][1][2][-1][2][1]["a"].clear()
        self.assertEqual(party_log(network, "a"), expected)


if __name__ == "__main__":
    unittest.main()
