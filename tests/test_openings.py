"""Point 13: reads and publications in which servers deviate."""

import itertools
import random
import unittest

from lotkept.networks import Network
from tests.forgeries import random_scheme
from tests.helpers import FIVE, FOUR, sent

# The servers a and b, or c alone, may be faulty.
UNEVEN = (7, ("a", "b", "c", "d", "e", "f"), ("p", "q"), (("a", "b"), ("c", "d")), (("a", "b"), ("c",)))


def stored(scheme=FOUR, faulty=("d", "p")):
    network = Network(scheme, faulty, (("q", (1, 2, 3, 4) * 9),))
    network.store("q", "x", 4)
    return network


class ReadTest(unittest.TestCase):
    def test_every_number_in_place_of_each_share(self):
        for k, number in itertools.product(range(3), range(7)):
            network = stored()
            correct = (1, 2, 3)[k]
            answer = network.read("q", "x", overrides=((1, "d", (("q", ("report", k, number)),)),))
            self.assertEqual(answer, (4, () if number == correct else ("d",)))
            self.assertEqual((network.exposed(), network.disputes(), network.incident_count()), ((), (), 0))

    def test_a_silent_server_is_not_among_the_deviating(self):
        for messages in ((), (("q", ("report", 0, None)),), (("q", ("report", 0, 6)),) * 2, (("", ("report", 0, 6)),)):
            self.assertEqual(stored().read("q", "x", overrides=((1, "d", messages),)), (4, ()))

    def test_several_deviating_servers(self):
        for liars in ((), ("a",), ("b",), ("a", "b")):
            network = stored(UNEVEN, ("a", "b"))
            messages = (("q", ("report", 1, 0)),)
            overrides = tuple((1, party, messages) for party in liars)
            self.assertEqual(network.shares_at("a", "x"), (None, 3))
            self.assertEqual(network.read("q", "x", overrides=overrides), (4, liars))

    def test_deviating_in_one_of_several_shares(self):
        for numbers in itertools.product((1, 0), (2, 0), (3, 0)):
            messages = tuple(("q", ("report", k, number)) for k, number in enumerate(numbers))
            expected = () if numbers == (1, 2, 3) else ("d",)
            self.assertEqual(stored().read("q", "x", overrides=((1, "d", messages),)), (4, expected))

    def test_a_faulty_client_gets_nothing(self):
        network = stored()
        self.assertIsNone(network.read("p", "x"))
        self.assertIsNone(network.read("p", "x", overrides=((1, "d", ()), (1, "p", (("", 1),)))))
        self.assertIsNone(network.read("p", "x", overrides=((1, "d", (("p", ("report", 0, 6)),)),)))
        self.assertEqual((network.operation_count(), network.round_count()), (4, 8))
        self.assertEqual(len(sent(network, 1, 1)), 12)

    def test_an_exposed_server_reports_nothing(self):
        network = stored()
        network.publish("q", "x", overrides=((1, "d", ()),))
        self.assertEqual(network.exposed(), ("d",))
        self.assertEqual(network.read("q", "x"), (4, ()))
        self.assertEqual(sent(network, 2, 1, "d"), [])
        self.assertEqual(len(sent(network, 2, 1)), 9)
        # What it sends all the same is not required.
        self.assertEqual(network.read("q", "x", overrides=((1, "d", (("q", ("report", 0, 6)),)),)), (4, ()))

    def test_a_read_exposes_nobody(self):
        network = stored()
        for _ in range(3):
            network.read("q", "x", overrides=((1, "d", tuple(("q", ("report", k, 0)) for k in range(3))),))
        self.assertEqual((network.exposed(), network.incident_count()), ((), 0))


class PublishTest(unittest.TestCase):
    def test_every_number_in_place_of_each_share(self):
        for k, number in itertools.product(range(3), range(7)):
            network = stored()
            shares = [1, 2, 3]
            shares[k] = number
            messages = tuple(("", ("report", at, share)) for at, share in enumerate(shares))
            self.assertEqual(network.publish("q", "x", overrides=((1, "d", messages),)), 4)
            self.assertEqual(network.exposed(), () if shares == [1, 2, 3] else ("d",))
            self.assertEqual((network.disputes(), network.incident_count()), ((), 0))

    def test_one_share_is_missing(self):
        for k in range(3):
            network = stored()
            messages = tuple(("", ("report", at, at + 1)) for at in range(3) if at != k)
            self.assertEqual(network.publish("p", "x", overrides=((1, "d", messages),)), 4)
            self.assertEqual(network.exposed(), ("d",))

    def test_a_publication_for_a_faulty_client(self):
        network = stored()
        self.assertEqual(network.publish("p", "x", overrides=((1, "p", (("", ("report", 0, 6)),)),)), 4)
        self.assertEqual(network.exposed(), ())

    def test_those_exposed_before_stay_so_and_are_not_asked(self):
        network = stored(UNEVEN, ("a", "b", "p"))
        network.publish("q", "x", overrides=((1, "b", ()),))
        self.assertEqual(network.exposed(), ("b",))
        self.assertEqual(network.publish("q", "x", overrides=((1, "b", (("", ("report", 1, 6)),)),)), 4)
        self.assertEqual(network.exposed(), ("b",))
        self.assertEqual(network.publish("q", "x", overrides=((1, "a", ()),)), 4)
        self.assertEqual(network.exposed(), ("a", "b"))
        self.assertEqual((sent(network, 3, 1, "b"), sent(network, 3, 1, "a")), ([], []))


class GuaranteeTest(unittest.TestCase):
    """Whatever the servers of a fault set report, the value is the one that was stored."""

    def lie(self, chance, network, faulty, recipient):
        overrides = ()
        for party in faulty:
            reports = enumerate(network.shares_at(party, "x"))
            shares = [(k, chance.choice((share, chance.randrange(7), None))) for k, share in reports]
            messages = tuple((recipient, ("report", k, share)) for k, share in shares if chance.random() < 0.8)
            overrides += ((1, party, messages),)
        return overrides

    def test_random_schemes(self):
        chance = random.Random(3)
        for _ in range(200):
            scheme = chance.choice((FOUR, FIVE, UNEVEN, random_scheme(chance, False), random_scheme(chance, False)))
            scheme = (997,) + scheme[1:]
            faulty = chance.choice(scheme[4])
            client = scheme[2][0]
            network = Network(scheme, faulty, ((client, tuple(chance.randrange(10 ** 6) for _ in range(5))),))
            value = chance.randrange(997)
            network.store(client, "x", value)
            answer, deviating = network.read(client, "x", overrides=self.lie(chance, network, faulty, client))
            self.assertEqual(answer, value)
            self.assertLessEqual(set(deviating), set(faulty))
            self.assertEqual(network.publish(client, "x", overrides=self.lie(chance, network, faulty, "")), value)
            self.assertLessEqual(set(network.exposed()), set(faulty))


if __name__ == "__main__":
    unittest.main()
