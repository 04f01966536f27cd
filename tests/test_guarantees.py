"""Point 3, and points 6 to 18 against a second account of them, for whatever faulty parties send."""

import random
import unittest

from lotkept.networks import Network
from tests.forgeries import random_case, random_faulty, random_numbers, random_overrides
from tests.helpers import FIVE, FOUR
from tests.oracle import Oracle, same

# Four observer sets and five servers, two of which may be faulty together with any clients.
WIDE = (5, ("a", "b", "c", "d", "e"), ("p", "q"), (("a", "b"), ("c",), ("d",), ("e",)), (("a", "b"),))
DENSE = (3, ("a", "b", "c", "d", "e"), ("p", "q"), FIVE[3][:4], FIVE[3][:4])


class GuaranteeTest(unittest.TestCase):
    def setUp(self):
        self.counts = {}

    def count(self, what, many=1):
        self.counts[what] = self.counts.get(what, 0) + many

    def check_state(self, network, oracle, scheme):
        self.assertEqual(network.exposed(), tuple(sorted(oracle.exposed)))
        self.assertEqual(network.disputes(), tuple(sorted(oracle.disputes)))
        self.assertEqual(network.stored_keys(), tuple(sorted(oracle.shares)))
        self.assertEqual(len(network), len(oracle.shares))
        for key in network.stored_keys():
            self.assertEqual(network.expected_value(key), oracle.expected[key])
            for server in scheme[1]:
                self.assertTrue(same(network.shares_at(server, key), oracle.shares_at(server, key)))
        counts = network.round_count(), network.operation_count(), network.incident_count()
        self.assertEqual(counts, (oracle.rounds, oracle.operations, oracle.incidents))
        for party in scheme[1] + scheme[2]:
            self.assertEqual(network.remaining(party), len(oracle.numbers[party]))

    def check_honest(self, network, scheme, faulty):
        self.assertLessEqual(set(network.exposed()), set(faulty))
        for pair in network.disputes():
            self.assertTrue(set(pair) & set(faulty), pair)
            self.assertTrue(set(pair) & set(scheme[1]), pair)
        for key in network.stored_keys():
            total = 0
            for k in range(len(scheme[3])):
                honest = {network.shares_at(server, key)[k] for server in scheme[1] if server not in faulty} - {None}
                self.assertEqual(len(honest), 1, (key, k))
                total += honest.pop()
            self.assertEqual(total % scheme[0], network.expected_value(key))

    def trusted_value(self, network, faulty, word, arguments, values):
        """What a single trusted server would have, which learns from the network only what faulty clients stored."""
        prime = network[0]
        if word == "store":
            return network[1] if arguments[0] in faulty else arguments[2]
        if word == "add":
            return (values[arguments[2]] + values[arguments[3]]) % prime
        if word == "scale":
            return arguments[2] * values[arguments[3]] % prime
        return values[arguments[2]] * values[arguments[3]] % prime

    def check_result(self, word, arguments, faulty, result, values):
        if word == "publish":
            self.assertEqual(result, values[arguments[1]])
        elif word == "read" and arguments[0] not in faulty:
            self.assertEqual(result[0], values[arguments[1]])
            self.assertLessEqual(set(result[1]), set(faulty))
        else:
            self.assertIsNone(result)

    def play(self, case):
        scheme, faulty, randomness, operations = case
        network, oracle = Network(scheme, faulty, randomness), Oracle(scheme, faulty, randomness)
        values = {}
        for word, arguments, overrides in operations:
            before = len(network.exposed()) + len(network.disputes()), network.incident_count()
            result = getattr(network, word)(*arguments, overrides=overrides)
            self.assertTrue(same(result, getattr(oracle, word)(*arguments, overrides=overrides)), (word, arguments))
            self.check_state(network, oracle, scheme)
            self.check_honest(network, scheme, faulty)
            if word not in ("read", "publish"):
                key = arguments[1]
                known = scheme[0], network.expected_value(key)
                values[key] = self.trusted_value(known, faulty, word, arguments, values)
                self.assertEqual(network.expected_value(key), values[key])
            self.check_result(word, arguments, faulty, result, values)
            if network.incident_count() > before[1]:
                self.assertGreater(len(network.exposed()) + len(network.disputes()), before[0])
                self.count("incidents in " + word)
        self.assertTrue(same(network.messages(), tuple(oracle.log)))
        for observers in scheme[3] + tuple((client,) for client in scheme[2]):
            self.assertTrue(same(network.view(observers), oracle.view(observers)))
        self.count("exposed servers", len(set(network.exposed()) & set(scheme[1])))
        self.count("exposed clients", len(set(network.exposed()) & set(scheme[2])))
        self.count("disputes", len(network.disputes()))
        self.count("opened", any(row[1] == 7 and row[2] not in faulty for row in network.messages()))

    def test_random_cases(self):
        for seed in range(150):
            chance = random.Random(seed)
            with self.subTest(seed=seed):
                self.play(random_case(chance, 8, chance.random() < 0.5))
        for what in ("incidents in store", "exposed servers", "exposed clients", "disputes"):
            self.assertGreater(self.counts[what], 5, what)

    def test_random_cases_in_which_all_is_as_required(self):
        for seed in range(20):
            chance = random.Random(seed)
            with self.subTest(seed=seed):
                self.play(random_case(chance, 8, chance.random() < 0.5, honest=True))
        self.assertEqual(self.counts["exposed servers"] + self.counts["disputes"] + self.counts["opened"], 0)

    def products(self, chance):
        """Stores that may lead to disputes, and then multiplications of what they led to."""
        scheme = chance.choice((FOUR, FOUR, FOUR, WIDE, DENSE))
        faulty = random_faulty(chance, scheme)
        randomness = random_numbers(chance, scheme, 40 * len(scheme[3]) ** 2)
        network = Network(scheme, faulty, randomness)
        liar = chance.choice(scheme[2])
        plan = (
            ("store", (liar, "x", chance.randrange(scheme[0]))), ("store", ("q", "y", chance.randrange(scheme[0]))),
            ("multiply", ("p", "z", "x", "y")), ("multiply", ("q", "u", "z", "x")), ("read", ("q", "u")),
            ("publish", ("p", "u")),
        )
        operations = []
        for word, arguments in plan:
            rate = chance.choice((0.1, 0.3))
            overrides = random_overrides(chance, network, scheme, faulty, (word, arguments), rate)
            getattr(network, word)(*arguments, overrides=overrides)
            operations.append((word, arguments, overrides))
        return scheme, faulty, randomness, tuple(operations)

    def test_multiplications(self):
        for seed in range(30):
            with self.subTest(seed=seed):
                self.play(self.products(random.Random(seed)))
        for what in ("incidents in multiply", "exposed servers", "disputes", "opened"):
            self.assertGreater(self.counts[what], 5, what)


if __name__ == "__main__":
    unittest.main()
