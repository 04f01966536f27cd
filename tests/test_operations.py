"""Points 13, 14 and 17: operations in which everybody does what is required."""

import itertools
import unittest

from lotkept.networks import Network
from lotkept.schemes import holders
from tests.helpers import FIVE, FOUR, ONE_SHARE, THREE, TWO, network_of, sent, zeros_for

PAIRS = (11, ("a", "b", "c", "d", "e"), ("p", "q"), (("a", "b"), ("c", "d"), ("e",)), (("a",), ("c",)))
SCHEMES = (TWO, THREE, FOUR, FIVE, ONE_SHARE, PAIRS)


def store_messages(scheme, client, shares):
    """The messages of an honest store, round by round, for parties that know nothing of one another."""
    name = (client,)
    first = [
        (client, holder, ("share", name, k, share)) for k, share in enumerate(shares) for holder in holders(scheme, k)
    ]
    second = [
        (sender, holder, ("echo", name, k, share)) for sender in scheme[1]
        for k, share in enumerate(shares) if sender in holders(scheme, k)
        for holder in holders(scheme, k) if holder != sender
    ]
    return [first, second, [], [], []]


def reports(scheme, shares, recipient):
    return [
        (server, recipient, ("report", k, share)) for server in scheme[1]
        for k, share in enumerate(shares) if server in holders(scheme, k)
    ]


class StoreTest(unittest.TestCase):
    def test_messages_shares_and_numbers(self):
        for scheme in SCHEMES:
            prime, many = scheme[0], len(scheme[3])
            network = network_of(scheme)
            used = network.view(("p",))[1][0][1]
            self.assertEqual(used, ())
            self.assertIsNone(network.store("p", "x", 5))
            used = network.view(("p",))[1][0][1]
            self.assertEqual(len(used), many - 1)
            shares = [number % prime for number in used]
            shares.append((5 - sum(shares)) % prime)
            for server in scheme[1]:
                expected = tuple(share if server in holders(scheme, k) else None for k, share in enumerate(shares))
                self.assertEqual(network.shares_at(server, "x"), expected)
            for turn, messages in enumerate(store_messages(scheme, "p", shares)):
                self.assertEqual(sent(network, 0, turn + 1), messages)
            self.assertEqual(len(network.messages()), sum(map(len, store_messages(scheme, "p", shares))))
            self.assertEqual((network.round_count(), network.operation_count()), (5, 1))
            self.assertEqual((network.remaining("p"), network.expected_value("x")), (400 - (many - 1), 5))
            self.assertEqual((network.exposed(), network.disputes(), network.incident_count()), ((), (), 0))

    def test_the_messages_of_the_example_scheme_written_out(self):
        network = Network(THREE, (), (("q", (3, 9)),))
        network.store("q", "x", 5)
        name = ("q",)
        self.assertEqual(network.messages(), (
            (0, 1, "q", "b", ("share", name, 0, 3)), (0, 1, "q", "c", ("share", name, 0, 3)),
            (0, 1, "q", "a", ("share", name, 1, 2)), (0, 1, "q", "c", ("share", name, 1, 2)),
            (0, 1, "q", "a", ("share", name, 2, 0)), (0, 1, "q", "b", ("share", name, 2, 0)),
            (0, 2, "a", "c", ("echo", name, 1, 2)), (0, 2, "a", "b", ("echo", name, 2, 0)),
            (0, 2, "b", "c", ("echo", name, 0, 3)), (0, 2, "b", "a", ("echo", name, 2, 0)),
            (0, 2, "c", "b", ("echo", name, 0, 3)), (0, 2, "c", "a", ("echo", name, 1, 2)),
        ))

    def test_every_value_of_a_small_prime(self):
        scheme = (3,) + THREE[1:]
        for value, first, second in itertools.product(range(3), repeat=3):
            network = Network(scheme, (), (("p", (first, second)),))
            network.store(client="p", key="x", value=value)
            shares = network.shares_at("b", "x")[0], network.shares_at("a", "x")[1], network.shares_at("a", "x")[2]
            self.assertEqual(shares, (first, second, (value - first - second) % 3))

    def test_a_key_is_replaced(self):
        network = network_of(FOUR)
        network.store("p", "x", 3)
        network.store("q", "x", 6)
        self.assertEqual((len(network), network.expected_value("x"), network.read("p", "x")), (1, 6, (6, ())))


class LocalTest(unittest.TestCase):
    def test_sums_of_all_values(self):
        for scheme in SCHEMES:
            for first, second in itertools.product((0, 1, 4, 6), repeat=2):
                network = network_of(scheme)
                network.store("p", "x", first)
                network.store("p", "y", second)
                before = network.messages(), network.round_count(), [network.remaining(name) for name in scheme[1]]
                self.assertIsNone(network.add("p", "z", "x", "y"))
                after = network.messages(), network.round_count(), [network.remaining(name) for name in scheme[1]]
                self.assertEqual(after, before)
                self.assertEqual(network.operation_count(), 3)
                self.assertEqual(network.expected_value("z"), (first + second) % scheme[0])
                for server in scheme[1]:
                    parts = [network.shares_at(server, key) for key in "xyz"]
                    for one, two, both in zip(*parts):
                        self.assertEqual(both, None if one is None else (one + two) % scheme[0])

    def test_multiples(self):
        for scheme in SCHEMES:
            for factor, value in itertools.product((0, 1, 3, 6), repeat=2):
                network = network_of(scheme)
                network.store("p", "x", value)
                before = network.messages()
                self.assertIsNone(network.scale("p", "z", factor, "x"))
                self.assertEqual((network.messages(), network.round_count()), (before, 5))
                self.assertEqual(network.expected_value("z"), factor * value % scheme[0])
                for server in scheme[1]:
                    for one, many in zip(network.shares_at(server, "x"), network.shares_at(server, "z")):
                        self.assertEqual(many, None if one is None else factor * one % scheme[0])

    def test_a_key_may_be_replaced_by_what_is_made_of_it(self):
        network = network_of(FOUR)
        network.store("p", "x", 3)
        network.add("q", "x", "x", "x")
        self.assertEqual((network.expected_value("x"), network.read("p", "x")), (6, (6, ())))
        network.scale("q", "x", 3, "x")
        self.assertEqual((network.expected_value("x"), network.read("p", "x")), (4, (4, ())))
        network.multiply("q", "x", "x", "x")
        self.assertEqual((network.expected_value("x"), network.read("p", "x")), (2, (2, ())))
        self.assertEqual(network.stored_keys(), ("x",))

    def test_by_name(self):
        network = network_of(THREE)
        network.store(client="p", key="x", value=5, overrides=())
        network.add(client="q", key="y", first="x", second="x", overrides=())
        network.scale(client="q", key="z", factor=3, first="y", overrides=())
        network.multiply(client="q", key="w", first="y", second="z", overrides=())
        values = [network.expected_value(key=key) for key in "xyzw"]
        self.assertEqual(values, [5, 3, 2, 6])
        self.assertEqual(network.read(client="p", key="w", overrides=()), (6, ()))
        self.assertEqual(network.publish(client="p", key="w", overrides=()), 6)
        self.assertEqual(network.shares_at(server="a", key="x"), network.shares_at("a", "x"))
        self.assertEqual(network.remaining(party="p"), 398)
        self.assertEqual(network.view(observers=("a",)), network.view(("a",)))

    def test_the_overrides_are_only_given_by_name(self):
        network = network_of(FOUR)
        for word, arguments in (
            ("store", ("p", "x", 1)), ("add", ("p", "y", "x", "x")), ("scale", ("p", "y", 2, "x")),
            ("multiply", ("p", "y", "x", "x")), ("read", ("p", "x")), ("publish", ("p", "x")),
        ):
            with self.assertRaises(TypeError):
                getattr(network, word)(*arguments, ())
            getattr(network, word)(*arguments)


class OpeningTest(unittest.TestCase):
    def test_reads(self):
        for scheme in SCHEMES:
            network = network_of(scheme)
            network.store("p", "x", 5)
            shares = [
                [network.shares_at(server, "x")[k] for server in holders(scheme, k)][0] for k in range(len(scheme[3]))
            ]
            self.assertEqual(network.read("p", "x"), (5, ()))
            self.assertEqual(sent(network, 1, 1), reports(scheme, shares, "p"))
            self.assertEqual((network.round_count(), network.operation_count()), (6, 2))
            self.assertEqual((network.exposed(), network.incident_count()), ((), 0))

    def test_publications(self):
        for scheme in SCHEMES:
            network = network_of(scheme)
            network.store("p", "x", 6)
            shares = [
                [network.shares_at(server, "x")[k] for server in holders(scheme, k)][0] for k in range(len(scheme[3]))
            ]
            self.assertEqual(network.publish("p", "x"), 6)
            self.assertEqual(sent(network, 1, 1), reports(scheme, shares, ""))
            self.assertEqual((network.round_count(), network.exposed()), (6, ()))

    def test_any_client_reads_any_key(self):
        network = network_of(FOUR, ("p",))
        network.store("q", "x", 2)
        self.assertEqual(network.read("q", "x"), (2, ()))
        self.assertIsNone(network.read("p", "x"))
        self.assertEqual(network.publish("p", "x"), 2)
        # The servers send their shares to a faulty client as well.
        self.assertEqual(len(sent(network, 2, 1)), 12)


class MultiplyTest(unittest.TestCase):
    def test_values_shares_and_rounds(self):
        for scheme in (TWO, THREE, FOUR, ONE_SHARE, FIVE):
            for first, second in ((0, 0), (1, 6), (5, 5), (3, 4)):
                network = network_of(scheme)
                network.store("p", "x", first)
                network.store("p", "y", second)
                self.assertIsNone(network.multiply("p", "z", "x", "y"))
                value = first * second % scheme[0]
                self.assertEqual((network.expected_value("z"), network.read("p", "z")), (value, (value, ())))
                self.assertEqual((network.round_count(), network.operation_count()), (18, 4))
                self.assertEqual((network.exposed(), network.disputes(), network.incident_count()), ((), (), 0))
                for turn in (3, 4, 5, 7):
                    self.assertEqual(sent(network, 2, turn), [])

    def test_two_servers_with_one_share_written_out(self):
        network = Network(TWO, (), ())
        network.store("p", "x", 5)
        network.multiply("p", "y", "x", "x")
        self.assertEqual(network.messages()[4:], (
            (1, 1, "a", "b", ("share", ("a", 0, 0), 0, 4)), (1, 1, "b", "a", ("share", ("b", 0, 0), 0, 4)),
            (1, 6, "a", "", ("difference", 0, 0, 1, 0, 0)), (1, 6, "b", "", ("difference", 0, 0, 1, 0, 0)),
        ))
        self.assertEqual(network.shares_at("a", "y"), (4,))

    def test_three_servers_written_out(self):
        # The shares of x are 1, 2 and 2; those of y are 3, 0 and 1.
        numbers = tuple((server, tuple(range(at, at + 8))) for at, server in ((1, "a"), (2, "b"), (3, "c")))
        network = Network(THREE, (), numbers + (("p", (1, 2, 3, 0)),))
        network.store("p", "x", 5)
        network.store("p", "y", 4)
        network.multiply("p", "z", "x", "y")
        # a deals (1, 1), (1, 2), (2, 1) and (2, 2), the products 2 * 0, 2 * 1, 2 * 0 and 2 * 1.
        shares = {(1, 1): (1, 2, 4), (1, 2): (3, 4, 2), (2, 1): (5, 6, 3), (2, 2): (0, 1, 1)}
        expected = []
        for (a, b), (one, two, three) in shares.items():
            rows = [("b", 0, one), ("c", 0, one), ("c", 1, two), ("b", 2, three)]
            expected.extend(("a", to, ("share", ("a", a, b), k, n)) for to, k, n in rows)
        self.assertEqual(sent(network, 2, 1, "a"), expected)
        # b echoes what it got from a and c; a term's dealings come one after the other.
        names = [("c", 0, 0), ("a", 2, 2)]
        found = [(to, payload) for _, to, payload in sent(network, 2, 2, "b") if payload[1] in names]
        self.assertEqual([payload[1:3] for _, payload in found], [(("c", 0, 0), 2), (("a", 2, 2), 0)])
        self.assertEqual([to for to, _ in found], ["a", "c"])
        # The differences of b: (0, 0) has c beside b, (1, 1) c beside a, (2, 2) b beside a.
        found = [payload[1:5] for _, _, payload in sent(network, 2, 6, "b")]
        self.assertEqual(found, [(0, 0, 2, 0), (0, 0, 2, 2), (1, 1, 2, 0), (1, 1, 2, 2), (2, 2, 1, 0), (2, 2, 1, 2)])
        self.assertEqual(network.expected_value("z"), 6)
        self.assertEqual([network.remaining(server) for server in "abc"], [0, 0, 0])

    def test_random_numbers_are_used_in_the_order_of_the_terms(self):
        network = network_of(FIVE)
        network.store("p", "x", 5)
        network.multiply("p", "y", "x", "x")
        for server in FIVE[1]:
            used = dict(network.view((server,))[1])[server]
            numbers = []
            for a, b in itertools.product(range(5), repeat=2):
                if server in holders(FIVE, a) and server in holders(FIVE, b):
                    name = (server, a, b)
                    dealt = {
                        payload[2]: payload[3] for _, _, payload in sent(network, 1, 1, server) if payload[1] == name
                    }
                    numbers.extend(dealt[k] for k in range(4))
            self.assertEqual(numbers, [number % 11 for number in used])
            self.assertEqual(len(used), 4 * 16)

    def test_every_round_is_in_order(self):
        network = network_of(FOUR)
        network.store("p", "x", 5)
        network.multiply("p", "y", "x", "x")
        for turn in (1, 2):
            rows = sent(network, 1, turn)
            keys = [(row[0], row[2][1][1:], row[2][1][0], row[2][2], row[1]) for row in rows]
            self.assertEqual(keys, sorted(keys))
            self.assertEqual(len(set(keys)), len(rows))
        rows = sent(network, 1, 6)
        keys = [(row[0],) + row[2][1:5] for row in rows]
        self.assertEqual((keys, len(set(keys))), (sorted(keys), len(rows)))

    def test_zeros_as_random_numbers(self):
        network = Network(THREE, (), zeros_for(THREE, 8))
        network.store("p", "x", 5)
        network.multiply("p", "w", "x", "x")
        self.assertEqual((network.expected_value("w"), network.remaining("a"), network.remaining("p")), (4, 0, 6))


if __name__ == "__main__":
    unittest.main()
