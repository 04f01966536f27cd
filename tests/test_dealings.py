"""Points 11 and 12: dealings in which parties deviate, in stores of the value 4 with the shares 1, 2, 3 and 5."""

import unittest

from lotkept.networks import Network
from tests.helpers import FOUR, sent, subsets

# Two servers may be faulty together; share 0 has the holders c to g, share 1 all but c and d.
SEVEN = (7, ("a", "b", "c", "d", "e", "f", "g"), ("p", "q"), (("a", "b"), ("c", "d")), (("a", "b"), ("c", "d")))
NAME = ("p",)


def network_of(scheme=FOUR, faulty=("d", "p")):
    return Network(scheme, faulty, (("p", (1, 2, 3) * 20), ("q", (1, 2, 3) * 20)))


def share(to, k, n, client="p"):
    return (to, ("share", (client,), k, n))


def dealt(*, without=(), instead=()):
    """All that p has to send in round 1, without the messages to some holders of some shares, and with others."""
    found = [
        share(holder, k, n) for k, n in enumerate((1, 2, 3, 5)) for holder in "abcd"
        if holder != "abcd"[k] and (holder, k) not in without
    ]
    return tuple(found) + tuple(instead)


def entry(turn, party, *messages):
    return (turn, party, messages)


def aloud(word, k, n, client="p"):
    return ("", (word, (client,), k, n))


def holding(network, key, k):
    return {server: network.shares_at(server, key)[k] for server in FOUR[1]}


class DealerTest(unittest.TestCase):
    """The client p deals what the holders do not agree on."""

    def store(self, *entries):
        network = network_of()
        network.store("p", "x", 4, overrides=entries)
        return network

    def facts(self, network):
        return network.expected_value("x"), network.exposed(), network.disputes(), network.incident_count()

    def test_a_share_that_differs_at_one_holder(self):
        network = self.store((1, "p", dealt(without={("b", 0)}, instead=[share("b", 0, 2)])))
        self.assertEqual(sent(network, 0, 3), [
            ("b", "", ("complaint", NAME, 0, 2)), ("b", "", ("complaint", NAME, 0, 3)),
            ("c", "", ("complaint", NAME, 0, 1)), ("d", "", ("complaint", NAME, 0, 1)),
        ])
        self.assertEqual(sent(network, 0, 4), [
            ("b", "", ("claim", NAME, 0, 2)), ("c", "", ("claim", NAME, 0, 1)), ("d", "", ("claim", NAME, 0, 1)),
        ])
        self.assertEqual(sent(network, 0, 5), [("p", "", ("share", NAME, 0, 1))])
        self.assertEqual(self.facts(network), (4, (), (("b", "p"),), 1))
        self.assertEqual(holding(network, "x", 0), {"a": None, "b": 1, "c": 1, "d": 1})

    def test_the_dealer_decides_for_the_other_number(self):
        network = self.store(
            (1, "p", dealt(without={("b", 0)}, instead=[share("b", 0, 2)])), entry(5, "p", aloud("share", 0, 2)),
        )
        self.assertEqual(self.facts(network), (5, (), (("c", "p"), ("d", "p")), 1))
        self.assertEqual(holding(network, "x", 0), {"a": None, "b": 2, "c": 2, "d": 2})

    def test_the_dealer_decides_for_a_third_number(self):
        network = self.store(
            (1, "p", dealt(without={("b", 0)}, instead=[share("b", 0, 2)])), entry(5, "p", aloud("share", 0, 6)),
        )
        self.assertEqual(self.facts(network), (2, (), (("b", "p"), ("c", "p"), ("d", "p")), 1))

    def test_three_different_numbers(self):
        network = self.store((1, "p", dealt(
            without={("b", 0), ("c", 0)}, instead=[share("b", 0, 2), share("c", 0, 3)])))
        self.assertEqual(len(sent(network, 0, 3)), 6)
        self.assertEqual(len(sent(network, 0, 4)), 3)
        self.assertEqual(self.facts(network), (4, (), (("b", "p"), ("c", "p")), 1))

    def test_a_missing_share_counts_as_0(self):
        network = self.store((1, "p", dealt(without={("b", 0)})))
        self.assertEqual(sent(network, 0, 4, "b"), [("b", "", ("claim", NAME, 0, 0))])
        self.assertEqual(self.facts(network), (4, (), (("b", "p"),), 1))

    def test_a_duplicate_share_counts_as_0(self):
        network = self.store((1, "p", dealt(instead=[share("b", 0, 1)])))
        self.assertEqual(sent(network, 0, 4, "b"), [("b", "", ("claim", NAME, 0, 0))])
        self.assertEqual(self.facts(network), (4, (), (("b", "p"),), 1))

    def test_a_share_that_is_missing_for_all(self):
        network = self.store((1, "p", dealt(without={("b", 0), ("c", 0), ("d", 0)})))
        self.assertEqual((sent(network, 0, 3), sent(network, 0, 5)), ([], []))
        self.assertEqual(self.facts(network), (3, (), (), 0))
        self.assertEqual(holding(network, "x", 0), {"a": None, "b": 0, "c": 0, "d": 0})

    def test_another_share_for_all_is_what_the_client_stored(self):
        for n in range(7):
            changed = [share(holder, 0, n) for holder in "bcd"]
            network = self.store((1, "p", dealt(without={("b", 0), ("c", 0), ("d", 0)}, instead=changed)))
            self.assertEqual(self.facts(network), ((3 + n) % 7, (), (), 0))
            self.assertEqual(network.read("q", "x"), ((3 + n) % 7, ()))

    def test_two_shares_differ(self):
        network = self.store((1, "p", dealt(
            without={("b", 0), ("a", 3)}, instead=[share("b", 0, 2), share("a", 3, 6)])))
        rows = [row[:1] + row[2][:1] + row[2][2:] for row in sent(network, 0, 4)]
        self.assertEqual(rows, [
            ("a", "claim", 3, 6), ("b", "claim", 0, 2), ("b", "claim", 3, 5), ("c", "claim", 0, 1),
            ("c", "claim", 3, 5), ("d", "claim", 0, 1),
        ])
        self.assertEqual(sent(network, 0, 5), [("p", "", ("share", NAME, 0, 1)), ("p", "", ("share", NAME, 3, 5))])
        self.assertEqual(self.facts(network), (4, (), (("a", "p"), ("b", "p")), 1))

    def test_a_dealer_that_fails_in_round_5(self):
        bad = [share("b", 0, 2)]
        for messages in (
            (), (aloud("share", 1, 2),), (aloud("share", 0, 7),), (aloud("share", 0, 1), aloud("share", 0, 1)),
            (share("b", 0, 1), share("c", 0, 1), share("d", 0, 1)), (aloud("claim", 0, 1),), (aloud("share", 0, None),),
        ):
            network = self.store((1, "p", dealt(without={("b", 0)}, instead=bad)), (5, "p", messages))
            self.assertEqual(self.facts(network), (0, ("p",), (), 1))
            for server in FOUR[1]:
                expected = tuple(None if server == "abcd"[k] else 0 for k in range(4))
                self.assertEqual(network.shares_at(server, "x"), expected)
            self.assertEqual(network.read("q", "x"), (0, ()))

    def test_one_of_two_numbers_of_round_5_is_missing(self):
        network = self.store(
            (1, "p", dealt(without={("b", 0), ("a", 3)}, instead=[share("b", 0, 2), share("a", 3, 6)])),
            entry(5, "p", aloud("share", 0, 1)),
        )
        # There is a dispute about share 0, although the dealer failed, and none about share 3.
        self.assertEqual(self.facts(network), (0, ("p",), (("b", "p"),), 1))
        self.assertEqual(network.shares_at("a", "x"), (None, 0, 0, 0))

    def test_a_failure_needs_something_to_be_broadcast(self):
        network = self.store(entry(5, "p"), (2, "p", ()))
        self.assertEqual(self.facts(network), (4, (), (), 0))


class HolderTest(unittest.TestCase):
    """The holder d lies about what the honest or faulty client p dealt."""

    def store(self, *entries, faulty=("d",)):
        network = network_of(faulty=faulty)
        network.store("p", "x", 4, overrides=entries)
        self.assertEqual(network.read("q", "x"), (network.expected_value("x"), ()))
        return network.exposed(), network.disputes(), network.incident_count(), network.expected_value("x")

    def test_a_false_complaint(self):
        for index, accused in ((1, "b"), (2, "c")):
            facts = self.store(entry(3, "d", aloud("complaint", 0, index)))
            self.assertEqual(facts, ((), ((accused, "d"),), 1, 4))

    def test_two_false_complaints_expose_the_liar(self):
        facts = self.store(entry(3, "d", aloud("complaint", 0, 1), aloud("complaint", 0, 2)))
        self.assertEqual(facts, (("d",), (("b", "d"), ("c", "d")), 1, 4))
        facts = self.store(entry(3, "d", aloud("complaint", 0, 1), aloud("complaint", 1, 0)))
        self.assertEqual(facts, (("d",), (("a", "d"), ("b", "d")), 1, 4))

    def test_a_false_claim_after_a_false_complaint(self):
        facts = self.store(entry(3, "d", aloud("complaint", 0, 1)), entry(4, "d", aloud("claim", 0, 6)))
        self.assertEqual(facts, ((), (("d", "p"),), 1, 4))

    def test_no_claim_after_a_false_complaint(self):
        for messages in (
            (), (aloud("claim", 0, 7),), (aloud("claim", 0, 1), aloud("claim", 0, 1)), (aloud("claim", 1, 1),),
            (("b", ("claim", NAME, 0, 1)),), (aloud("claim", 0, True),), (aloud("echo", 0, 1),),
        ):
            facts = self.store(entry(3, "d", aloud("complaint", 0, 1)), (4, "d", messages))
            self.assertEqual(facts, (("d",), (), 1, 4), messages)

    def test_a_false_echo_is_complained_about(self):
        network = network_of(faulty=("d",))
        echoes = (("b", ("echo", NAME, 0, 6)), ("c", ("echo", NAME, 0, 1)))
        network.store("p", "x", 4, overrides=((2, "d", echoes),))
        self.assertEqual(sent(network, 0, 3), [("b", "", ("complaint", NAME, 0, 3))])
        self.assertEqual(sent(network, 0, 4), [("b", "", ("claim", NAME, 0, 1)), ("d", "", ("claim", NAME, 0, 1))])
        self.assertEqual((network.exposed(), network.disputes()), ((), (("b", "d"),)))

    def test_a_false_echo_and_a_claim_that_fits_it(self):
        facts = self.store((2, "d", (("b", ("echo", NAME, 0, 6)),)), entry(4, "d", aloud("claim", 0, 6)))
        self.assertEqual(facts, ((), (("d", "p"),), 1, 4))

    def test_missing_echoes_are_no_cause(self):
        self.assertEqual(self.store(entry(2, "d")), ((), (), 0, 4))
        messages = tuple((to, ("echo", NAME, 0, n)) for to in "bc" for n in (6, 6))
        self.assertEqual(self.store((2, "d", messages)), ((), (), 0, 4))

    def test_complaints_that_do_not_count(self):
        for k, m in ((0, 0), (0, 3), (0, 4), (0, -1), (3, 0), (3, 1), (1, 1), (2, 2), (4, 0), (0, 99)):
            self.assertEqual(self.store(entry(3, "d", aloud("complaint", k, m))), ((), (), 0, 4), (k, m))
        self.assertEqual(self.store(entry(3, "d", aloud("complaint", 0, 1, "q"))), ((), (), 0, 4))
        # A client holds no share, and complains about nobody.
        facts = self.store(entry(3, "p", aloud("complaint", 0, 1)), faulty=("p",))
        self.assertEqual(facts, ((), (), 0, 4))

    def test_one_claim_for_several_complaints(self):
        network = network_of(faulty=("d",))
        network.store("p", "x", 4, overrides=(entry(3, "d", aloud("complaint", 0, 1), aloud("complaint", 0, 2)),))
        claims = [row[2] for row in sent(network, 0, 4)]
        self.assertEqual(claims, [("claim", NAME, 0, 1)] * 3)
        self.assertEqual(sent(network, 0, 5), [("p", "", ("share", NAME, 0, 1))])

    def test_complaints_in_both_directions_are_one_dispute(self):
        # d tells b a false number, and complains about b itself.
        facts = self.store((2, "d", (("b", ("echo", NAME, 0, 6)),)), entry(3, "d", aloud("complaint", 0, 1)))
        self.assertEqual(facts, ((), (("b", "d"),), 1, 4))

    def test_dealer_and_holder_together(self):
        # p fails in round 5, and d is in dispute with b all the same.
        facts = self.store(entry(3, "d", aloud("complaint", 0, 1)), entry(5, "p"), faulty=("d", "p"))
        self.assertEqual(facts, (("p",), (("b", "d"),), 1, 0))
        # d does not say what it has, and p fails, too.
        facts = self.store(
            entry(3, "d", aloud("complaint", 0, 1)), entry(4, "d"), entry(5, "p"), faulty=("d", "p"))
        self.assertEqual(facts, (("d", "p"), (), 1, 0))
        # d and p contradict each other about share 0; d is exposed for what it did not say about share 1.
        facts = self.store(
            entry(3, "d", aloud("complaint", 0, 1), aloud("complaint", 1, 0)), entry(4, "d", aloud("claim", 0, 6)),
            faulty=("d", "p"))
        self.assertEqual(facts, (("d",), (("d", "p"),), 1, 4))


class AfterwardsTest(unittest.TestCase):
    """What a dispute or an exposure changes in the next store."""

    def disputed(self, *, client="p", number=2):
        """A network in which b is in dispute with p, and d is faulty."""
        network = network_of()
        network.store("p", "x", 4, overrides=(
            (1, "p", dealt(without={("b", 0)}, instead=[share("b", 0, number)])),))
        self.assertEqual(network.disputes(), (("b", "p"),))
        return network

    def test_shares_are_broadcast_after_a_dispute_with_the_dealer(self):
        network = self.disputed()
        network.store("p", "y", 4)
        self.assertEqual(sent(network, 1, 1), [
            ("p", "", ("share", NAME, 0, 1)), ("p", "a", ("share", NAME, 1, 2)), ("p", "c", ("share", NAME, 1, 2)),
            ("p", "d", ("share", NAME, 1, 2)), ("p", "", ("share", NAME, 2, 3)), ("p", "", ("share", NAME, 3, 5)),
        ])
        # Nobody checks a share that was broadcast.
        self.assertEqual({row[2][2] for row in sent(network, 1, 2)}, {1})
        self.assertEqual((network.expected_value("y"), network.incident_count()), (4, 1))
        self.assertEqual(holding(network, "y", 3), {"a": 5, "b": 5, "c": 5, "d": None})

    def test_a_dispute_with_one_client_concerns_no_other(self):
        network = self.disputed()
        network.store("q", "y", 4)
        self.assertEqual(len(sent(network, 1, 1)), 12)
        self.assertNotIn("", [row[1] for row in sent(network, 1, 1)])

    def test_complaints_about_a_share_that_was_broadcast_do_not_count(self):
        network = self.disputed()
        for k, m in ((0, 1), (0, 2), (2, 0), (2, 1)):
            network.store("p", "y", 4, overrides=(entry(3, "d", aloud("complaint", k, m)),))
        self.assertEqual((network.incident_count(), network.exposed()), (1, ()))
        network.store("p", "y", 4, overrides=(entry(3, "d", aloud("complaint", 1, 0)),))
        self.assertEqual((network.incident_count(), network.disputes()), (2, (("a", "d"), ("b", "p"))))

    def test_what_is_broadcast_is_the_share(self):
        network = self.disputed()
        changed = (aloud("share", 0, 6), aloud("share", 2, 0), aloud("share", 3, 6)) + tuple(
            share(holder, 1, 1) for holder in "acd")
        network.store("p", "y", 4, overrides=((1, "p", changed),))
        self.assertEqual(network.expected_value("y"), 6)
        self.assertEqual(network.shares_at("b", "y"), (6, None, 0, 6))
        self.assertEqual((network.incident_count(), network.exposed()), (1, ()))

    def test_a_dealer_that_fails_in_round_1(self):
        rest = (aloud("share", 2, 3), aloud("share", 3, 5)) + tuple(share(holder, 1, 2) for holder in "acd")
        for messages in (
            (), rest, rest + (aloud("share", 0, 7),), rest + (aloud("share", 0, 1), aloud("share", 0, 1)),
            rest + tuple(share(holder, 0, 1) for holder in "bcd"), rest + (aloud("share", False, 1),),
        ):
            network = self.disputed()
            complaint = entry(3, "d", aloud("complaint", 1, 0))
            network.store("p", "y", 4, overrides=((1, "p", messages), complaint))
            self.assertEqual([row[0] for turn in (2, 3, 4, 5) for row in sent(network, 1, turn)], ["d"])
            self.assertEqual((network.exposed(), network.disputes()), (("p",), (("b", "p"),)))
            self.assertEqual((network.expected_value("y"), network.incident_count()), (0, 1))
            for server in FOUR[1]:
                self.assertEqual(set(network.shares_at(server, "y")), {0, None})

    def test_a_store_by_an_exposed_client(self):
        network = self.disputed()
        network.store("p", "y", 4, overrides=(entry(1, "p"),))
        self.assertEqual(network.exposed(), ("p",))
        left, rounds = network.remaining("p"), network.round_count()
        overrides = (
            (1, "p", dealt()), entry(3, "d", aloud("complaint", 0, 1)), entry(5, "p", aloud("share", 0, 1)),
        )
        network.store("p", "z", 4, overrides=overrides)
        self.assertEqual((network.remaining("p"), network.round_count()), (left, rounds + 5))
        self.assertEqual(len([row for row in network.messages() if row[0] == 2]), 12 + 1 + 1)
        self.assertEqual((network.expected_value("z"), network.incident_count()), (0, 1))
        self.assertEqual((network.exposed(), network.disputes()), (("p",), (("b", "p"),)))
        self.assertEqual([network.shares_at(server, "z") for server in "ab"], [(None, 0, 0, 0), (0, None, 0, 0)])
        self.assertEqual((network.read("q", "z"), network.publish("p", "z")), ((0, ()), 0))
        network.store("p", "x", 4)
        self.assertEqual(len([row for row in network.messages() if row[0] == 5]), 0)

    def test_an_exposed_client_needs_no_random_numbers(self):
        network = Network(FOUR, ("d", "p"), (("p", (1, 2, 3, 1, 2, 3)),))
        network.store("p", "x", 4, overrides=(
            (1, "p", dealt(without={("b", 0)}, instead=[share("b", 0, 2)])), entry(5, "p")))
        self.assertEqual((network.exposed(), network.remaining("p")), (("p",), 3))
        for _ in range(3):
            network.store("p", "x", 4)
        self.assertEqual(network.remaining("p"), 3)

    def test_holders_in_dispute_do_not_check_each_other(self):
        network = network_of(faulty=("d",))
        network.store("p", "x", 4, overrides=(entry(3, "d", aloud("complaint", 0, 1)),))
        self.assertEqual(network.disputes(), (("b", "d"),))
        network.store("p", "y", 4, overrides=(entry(3, "d", aloud("complaint", 0, 1), aloud("complaint", 2, 1)),))
        pairs = {row[:2] for row in sent(network, 1, 2)}
        self.assertEqual(len(pairs), 10)
        self.assertNotIn(("b", "d"), pairs)
        self.assertNotIn(("d", "b"), pairs)
        self.assertEqual((network.incident_count(), network.disputes()), (1, (("b", "d"),)))
        network.store("q", "z", 4, overrides=(entry(3, "d", aloud("complaint", 0, 2, "q")),))
        self.assertEqual((network.incident_count(), network.disputes()), (2, (("b", "d"), ("c", "d"))))
        self.assertEqual(network.exposed(), ("d",))

    def test_exposed_holders_take_no_part(self):
        network = network_of()
        network.store("p", "x", 4)
        network.publish("p", "x", overrides=(entry(1, "d"),))
        self.assertEqual(network.exposed(), ("d",))
        overrides = (
            entry(2, "d", *[(to, ("echo", NAME, k, 6)) for to in "abc" for k in range(3)]),
            entry(3, "d", aloud("complaint", 0, 1), aloud("complaint", 1, 0)), entry(4, "d", aloud("claim", 0, 6)),
        )
        network.store("p", "y", 4, overrides=overrides)
        self.assertEqual([row[1] for row in sent(network, 2, 1)], ["b", "c", "a", "c", "a", "b", "a", "b", "c"])
        self.assertEqual([row for row in sent(network, 2, 2) if "d" in row[:2]], sent(network, 2, 2, "d"))
        self.assertEqual((network.shares_at("d", "y"), network.shares_at("a", "y")), ((0, 0, 0, None), (None, 2, 3, 5)))
        self.assertEqual((network.incident_count(), network.disputes(), network.expected_value("y")), (0, (), 4))
        # Its older shares stay, and sums are made of what it has.
        self.assertEqual(network.shares_at("d", "x"), (1, 2, 3, None))
        network.add("p", "z", "x", "y")
        self.assertEqual(network.shares_at("d", "z"), (1, 2, 3, None))
        network.scale("p", "z", 3, "z")
        self.assertEqual(network.shares_at("d", "z"), (3, 6, 2, None))
        self.assertEqual(network.read("q", "z"), (3, ()))

    def test_an_exposed_holder_has_0_whatever_it_is_sent(self):
        network = network_of()
        network.store("q", "x", 4)
        network.publish("p", "x", overrides=(entry(1, "d"),))
        network.store("p", "y", 4, overrides=((1, "p", dealt(without={("b", 0)}, instead=[share("b", 0, 2)])),))
        # Share 0 is announced in round 5, and d got its shares of round 1, but d takes no part.
        self.assertEqual(sent(network, 2, 5), [("p", "", ("share", NAME, 0, 1))])
        self.assertEqual((network.shares_at("d", "y"), network.shares_at("c", "y")), ((0, 0, 0, None), (1, 2, None, 5)))
        self.assertEqual((network.exposed(), network.disputes()), (("d",), (("b", "p"),)))
        # Now share 0 is broadcast from the beginning.
        network.store("p", "z", 4)
        self.assertEqual((network.shares_at("d", "z"), network.shares_at("c", "z")), ((0, 0, 0, None), (1, 2, None, 5)))

    def test_a_dispute_with_an_exposed_holder_is_no_reason_to_broadcast(self):
        network = network_of()
        # d contradicts p, and is exposed for its silence afterwards.
        network.store("p", "x", 4, overrides=(
            entry(3, "d", aloud("complaint", 0, 1)), entry(4, "d", aloud("claim", 0, 6))))
        self.assertEqual((network.disputes(), network.exposed()), ((("d", "p"),), ()))
        network.store("p", "y", 4)
        self.assertEqual([row[1] for row in sent(network, 1, 1) if row[2][2] == 0], [""])
        network.publish("q", "y", overrides=(entry(1, "d"),))
        network.store("p", "z", 4)
        self.assertEqual([row[1] for row in sent(network, 3, 1) if row[2][2] == 0], ["b", "c"])

    def test_the_public_state_is_that_from_before_the_operation(self):
        # The complaint against b makes d exposed only after the operation: in it, d still takes part.
        network = network_of(faulty=("d",))
        network.store("p", "x", 4, overrides=(
            entry(3, "d", aloud("complaint", 0, 1), aloud("complaint", 0, 2)),))
        self.assertEqual(network.exposed(), ("d",))
        self.assertEqual(network.shares_at("d", "x"), (1, 2, 3, None))
        self.assertEqual(sent(network, 0, 4, "d"), [("d", "", ("claim", NAME, 0, 1))])


class TogetherTest(unittest.TestCase):
    """Servers of one fault set, and the client that deals, deviate together."""

    def network(self, faulty=("c", "d", "p")):
        return Network(SEVEN, faulty, (("p", (3,) * 9), ("q", (3,) * 9)))

    def test_both_sides_of_a_complaint_are_silent(self):
        network = self.network()
        network.store("q", "x", 4, overrides=(
            (3, "c", (("", ("complaint", ("q",), 0, 3)),)), entry(4, "c"), entry(4, "d")))
        self.assertEqual((network.exposed(), network.disputes()), (("c", "d"), ()))
        self.assertEqual((network.expected_value("x"), network.incident_count()), (4, 1))

    def test_one_side_of_a_complaint_is_silent(self):
        network = self.network()
        network.store("q", "x", 4, overrides=((3, "c", (("", ("complaint", ("q",), 0, 3)),)), entry(4, "c")))
        self.assertEqual((network.exposed(), network.disputes()), (("c",), ()))

    def test_a_faulty_holder_may_keep_another_number(self):
        # a gets another share 1 than all others, tells them theirs, and complains about nobody.
        for number in range(7):
            network = self.network(("a", "b", "p"))
            messages = [("a", ("share", NAME, 1, number))]
            messages += [(holder, ("share", NAME, 1, 6)) for holder in "befg"]
            messages += [(holder, ("share", NAME, 0, 3)) for holder in "cdefg"]
            echoes = tuple((holder, ("echo", NAME, 1, 6)) for holder in "befg")
            network.store("p", "x", 0, overrides=((1, "p", tuple(messages)), (2, "a", echoes), entry(3, "a")))
            self.assertEqual(network.shares_at("a", "x"), (None, number))
            self.assertEqual([network.shares_at(holder, "x") for holder in "be"], [(None, 6), (3, 6)])
            self.assertEqual((network.expected_value("x"), network.incident_count()), (2, 0))
            # In a read it reports what it has.
            self.assertEqual(network.read("q", "x"), (2, () if number == 6 else ("a",)))
            self.assertEqual(network.publish("q", "x"), 2)
            self.assertEqual(network.exposed(), () if number == 6 else ("a",))

    def test_a_single_honest_holder(self):
        # Of the holders c, d and e of share 0 only e is honest.
        scheme = (5, ("a", "b", "c", "d", "e"), ("p",), (("a", "b"), ("c", "d")), (("a",), ("c", "d")))
        network = Network(scheme, ("c", "d", "p"), (("p", (1,) * 9),))
        messages = (("c", ("share", NAME, 0, 2)), ("d", ("share", NAME, 0, 2)), ("e", ("share", NAME, 0, 4)))
        quiet = tuple((turn, party, ()) for turn in (2, 3) for party in ("c", "d"))
        network.store("p", "x", 3, overrides=((1, "p", messages),) + quiet)
        self.assertEqual([network.shares_at(holder, "x")[0] for holder in "cde"], [2, 2, 4])
        self.assertEqual((network.expected_value("x"), network.publish("p", "x")), (4, 4))
        self.assertEqual((network.exposed(), network.disputes()), (("c", "d"), ()))


class CertaintyTest(unittest.TestCase):
    """After every operation the exposed parties are what identify_faulty says."""

    def test_a_dispute_may_expose_a_party_of_an_earlier_one(self):
        network = Network(SEVEN, ("c", "d"), (("p", (3,) * 9), ("q", (3,) * 9)))
        network.store("p", "x", 4, overrides=((3, "c", (("", ("complaint", NAME, 0, 4)),)),))
        # Nobody but c can be faulty in a dispute of c and e, because e is in no fault set.
        self.assertEqual((network.disputes(), network.exposed()), ((("c", "e"),), ("c",)))
        network.store("p", "y", 4, overrides=((3, "d", (("", ("complaint", NAME, 0, 5)),)),))
        self.assertEqual((network.disputes(), network.exposed()), ((("c", "e"), ("d", "f")), ("c", "d")))
        network.store("p", "z", 4)
        self.assertEqual({row[1] for row in sent(network, 2, 1)}, set("abefg"))

    def test_all_faulty_sets_of_the_scheme_may_stay_silent(self):
        for faulty in subsets(("c", "d", "p")):
            network = Network(SEVEN, faulty, (("p", (3,) * 9), ("q", (3,) * 9)))
            network.store("q", "x", 4)
            overrides = tuple((1, party, ()) for party in faulty)
            self.assertEqual(network.publish("p", "x", overrides=overrides), 4)
            self.assertEqual(network.exposed(), tuple(party for party in faulty if party != "p"))


if __name__ == "__main__":
    unittest.main()
