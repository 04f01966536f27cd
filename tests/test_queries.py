"""Points 17 and 18: what a network tells."""

import copy
import unittest

from lotkept.networks import Network
from tests.any_values import any_values
from tests.helpers import FOUR, THREE, TWO, network_of, outcome, sent, state_of, subsets

UNEVEN = (7, ("a", "b", "c", "d", "e"), ("p", "q"), (("a", "b"), ("c",)), (("a",), ("c",)))


def worked(scheme=FOUR, faulty=("d",)):
    """A network in which much was done; the first faulty party deviates in the third operation."""
    network = network_of(scheme, faulty)
    network.store("p", "x", 4)
    network.store("q", "z", 3)
    overrides = ((1, faulty[0], (("p", 5), (faulty[0], [6]), ("", ("hello",)))),) if faulty else ()
    network.read("q", "x", overrides=overrides)
    network.multiply("p", "y", "x", "z")
    network.scale("q", "abc", 2, "y")
    network.publish("p", "abc")
    return network


class QueryTest(unittest.TestCase):
    def test_stored_keys_are_ascending(self):
        network = network_of(TWO)
        self.assertEqual((network.stored_keys(), len(network)), ((), 0))
        for many, key in enumerate(("m", "b", "z", "a", "ab")):
            network.store("p", key, 1)
            self.assertEqual(len(network), many + 1)
            self.assertEqual(network.stored_keys(), tuple(sorted(("m", "b", "z", "a", "ab")[:many + 1])))
        network.store("p", "b", 2)
        self.assertEqual((len(network), network.stored_keys()), (5, ("a", "ab", "b", "m", "z")))

    def test_every_value_as_a_key(self):
        network = worked()
        for thing in any_values():
            expected = ("UnknownKey", {"name": thing})
            kept = copy.deepcopy(thing)
            self.assertEqual(outcome(lambda: network.expected_value(thing)), expected)
            self.assertEqual(outcome(lambda: network.expected_value(key=thing)), expected)
            self.assertEqual(outcome(lambda: network.shares_at("a", thing)), expected)
            self.assertEqual(repr(thing), repr(kept))

    def test_every_value_as_a_server(self):
        network = worked()
        for thing in any_values():
            if thing == "a":
                continue
            expected = ("UnknownServer", {"name": thing})
            self.assertEqual(outcome(lambda: network.shares_at(thing, "x")), expected)
            # The server comes before the key.
            self.assertEqual(outcome(lambda: network.shares_at(thing, thing)), expected)
            self.assertEqual(outcome(lambda: network.shares_at(server=thing, key=None)), expected)
        self.assertEqual(outcome(lambda: network.shares_at("p", "x")), ("UnknownServer", {"name": "p"}))
        self.assertEqual(outcome(lambda: network.shares_at("a", "a")), ("UnknownKey", {"name": "a"}))

    def test_every_value_as_a_party(self):
        network = worked()
        for thing in any_values():
            if thing != "a":
                expected = ("UnknownParty", {"name": thing})
                self.assertEqual(outcome(lambda: network.remaining(thing)), expected)
                self.assertEqual(outcome(lambda: network.remaining(party=thing)), expected)
        self.assertEqual([network.remaining(party) for party in "abcdpq"], [373, 373, 373, 373, 397, 397])

    def test_every_value_as_observers(self):
        network = worked()
        for thing in any_values():
            result = outcome(lambda: network.view(thing))
            if isinstance(thing, tuple) and thing in ((), ("a",)):
                self.assertEqual(result[0], "returned")
            else:
                self.assertEqual(result, ("InvalidObservers", {"value": thing}))
                self.assertEqual(outcome(lambda: network.view(observers=thing)), result)

    def test_queries_change_nothing_and_return_the_same_again(self):
        network = worked()
        before = state_of(network, FOUR)
        for _ in range(3):
            self.assertEqual(state_of(network, FOUR), before)

    def test_results_are_tuples(self):
        network = worked()
        for result in (network.stored_keys(), network.exposed(), network.disputes(), network.messages(),
                       network.shares_at("a", "x"), network.view(("a",)), network.view(("a",))[0],
                       network.view(("a",))[1], network.messages()[0], network.read("p", "x")):
            self.assertIs(type(result), tuple)

    def test_counts(self):
        network = worked()
        self.assertEqual((network.round_count(), network.operation_count(), network.incident_count()), (19, 6, 0))
        self.assertEqual([network.expected_value(key) for key in ("x", "z", "y", "abc")], [4, 3, 5, 3])
        self.assertEqual({row[0] for row in network.messages()}, {0, 1, 2, 3, 5})

    def test_messages_are_ordered_by_operation_round_and_sender(self):
        network = network_of((7, ("b", "c", "d"), ("a", "e"), (("b",), ("c",), ("d",)), ((),)), ("a", "e"))
        overrides = ((1, "e", (("b", 1), ("", 0), ("b", 1))), (1, "a", (("c", "x"),)))
        network.store("a", "x", 1, overrides=overrides)
        network.read("e", "x", overrides=overrides)
        network.publish("e", "x", overrides=overrides)
        rows = [row[:3] for row in network.messages()]
        self.assertEqual(rows, sorted(rows))
        self.assertEqual(sent(network, 0, 1), [("a", "c", "x"), ("e", "b", 1), ("e", "", 0), ("e", "b", 1)])
        self.assertEqual([row[0] for row in sent(network, 1, 1)], list("abbccddeee"))

    def test_two_networks_share_nothing(self):
        first, second = worked(), network_of(FOUR)
        empty = state_of(second, FOUR)
        first.store("p", "u", 1, overrides=((1, "d", (("a", [1]),)),))
        self.assertEqual(state_of(second, FOUR), empty)
        full = state_of(first, FOUR)
        second.store("q", "u", 5)
        second.publish("q", "u")
        self.assertEqual(state_of(first, FOUR), full)
        third = worked()
        third.store("p", "u", 1, overrides=((1, "d", (("a", [1]),)),))
        self.assertEqual(state_of(third, FOUR), full)

    def test_a_list_given_to_two_networks(self):
        payload = [1, [2]]
        overrides = ((1, "d", (("a", payload),)),)
        first, second = network_of(FOUR, ("d",)), network_of(FOUR, ("d",))
        first.store("p", "x", 1, overrides=overrides)
        second.store("p", "x", 1, overrides=overrides)
        [row[4] for row in first.messages() if row[2] == "d"][0][1].append(3)
        rows = [row[4] for network in (first, second) for row in network.messages() if row[2:4] == ("d", "a")]
        self.assertEqual([row for row in rows if isinstance(row, list)], [[1, [2]], [1, [2]]])


class ViewTest(unittest.TestCase):
    def expected(self, network, observers):
        return tuple(
            row for row in network.messages() if row[3] == "" or any(name in row[2:4] for name in observers)
        )

    def test_who_may_observe(self):
        for scheme in (THREE, FOUR, UNEVEN):
            network = worked(scheme, scheme[4][0])
            for observers in subsets(sorted(scheme[1] + scheme[2])):
                servers = {party for party in observers if party in scheme[1]}
                result = outcome(lambda: network.view(observers))
                if any(servers <= set(names) for names in scheme[3]):
                    self.assertEqual(result[1][0], self.expected(network, observers))
                    self.assertEqual(tuple(party for party, _ in result[1][1]), observers)
                else:
                    self.assertEqual(result, ("InvalidObservers", {"value": observers}))

    def test_other_observers(self):
        network = worked()
        for observers in (("p", "a"), ("a", "a"), ["a"], "a", ("x",), ("a", "x"), {"a": 1}, ("a", None), ("",), None):
            self.assertEqual(outcome(lambda: network.view(observers)), ("InvalidObservers", {"value": observers}))

    def test_faulty_parties_as_observers(self):
        network = worked()
        messages, used = network.view(("d",))
        self.assertIn((2, 1, "d", "p", 5), messages)
        self.assertIn((2, 1, "d", "d", [6]), messages)
        self.assertEqual(messages, self.expected(network, ("d",)))
        self.assertEqual(used, (("d", tuple(range(3, 3 + 3 * 27, 3))),))
        # Without a faulty observer: what d sent to others is only seen where it was broadcast.
        messages, used = network.view(("a", "q"))
        self.assertEqual([row[3:] for row in messages if row[:3] == (2, 1, "d")], [("", ("hello",))])
        self.assertEqual(used[1], ("q", (5, 8, 11)))

    def test_nobody_sees_the_broadcasts_alone(self):
        messages, used = worked().view(())
        self.assertEqual(({row[3] for row in messages}, used), ({""}, ()))

    def test_numbers_are_shown_as_they_were_given(self):
        network = Network(FOUR, (), (("p", (10 ** 39, 7, 0, 5)),))
        self.assertEqual(network.view(("p",)), ((), (("p", ()),)))
        network.store("p", "x", 1)
        self.assertEqual(network.view(("p", "q"))[1], (("p", (10 ** 39, 7, 0)), ("q", ())))
        self.assertEqual(network.view(("p",))[0][0], (0, 1, "p", "b", ("share", ("p",), 0, 10 ** 39 % 7)))


if __name__ == "__main__":
    unittest.main()
