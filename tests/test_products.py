"""Point 14: multiplications in which parties deviate; x is 4, with the shares 1, 2, 3 and 5."""

import unittest

from lotkept.networks import Network
from tests.helpers import FOUR, ONE_SHARE, THREE, sent

PARTIES = ("a", "b", "c", "d", "p", "q")
MULTIPLY = ("p", "y", "x", "x")


class Case:
    """A network in which the operation under test is the multiplication after some others."""

    def __init__(self, faulty, before=(), scheme=FOUR, zeros=500):
        self.scheme, self.faulty, self.zeros = scheme, faulty, zeros
        self.before = (("store", ("q", "x", 4), ()),) + before
        self.overrides = ()

    def started(self):
        randomness = [(server, (0,) * self.zeros) for server in self.scheme[1]]
        randomness += [(client, (1, 2, 3) * 20) for client in self.scheme[2]]
        network = Network(self.scheme, self.faulty, tuple(randomness))
        for word, arguments, overrides in self.before:
            getattr(network, word)(*arguments, overrides=overrides)
        return network

    def run(self):
        network = self.started()
        network.multiply(*MULTIPLY, overrides=self.overrides)
        return network

    def index(self):
        return len(self.before)

    def required(self, turn, party):
        return [row[1:] for row in sent(self.run(), self.index(), turn, party)]

    def change(self, turn, party, change):
        """Let a faulty party send what the change makes of each message that it is required to send."""
        messages = []
        for to, payload in self.required(turn, party):
            messages.extend(change(to, payload))
        self.overrides += ((turn, party, tuple(messages)),)
        return self


def replaced(beginning, number):
    """Another number in all messages whose payload begins like this; None leaves them out."""
    def change(to, payload):
        if payload[:len(beginning)] != beginning:
            return [(to, payload)]
        return [] if number is None else [(to, payload[:-1] + (number,))]
    return change


def words(network, index, turn):
    return [row[2][:-1] for row in sent(network, index, turn)]


class ProductTest(unittest.TestCase):
    def check_value(self, network, exposed, disputes, incidents, value=2):
        self.assertEqual((network.exposed(), network.disputes()), (exposed, disputes))
        self.assertEqual((network.incident_count(), network.expected_value("y")), (incidents, value))
        self.assertEqual(network.publish("q", "y"), value)

    def shares(self, network):
        """The shares of the honest holders."""
        found = []
        for k in range(4):
            numbers = {network.shares_at(server, "y")[k] for server in "abcd" if server not in network.exposed()}
            self.assertEqual(len(numbers - {None}), 1)
            found.append((numbers - {None}).pop())
        return found


class DifferenceTest(ProductTest):
    def test_without_deviations(self):
        network = Case(("a",)).run()
        # With zeros as random numbers each product lies in the last share of its dealing.
        self.assertEqual(self.shares(network), [0, 0, 0, 2])
        self.check_value(network, (), (), 0)

    def test_a_wrong_difference(self):
        for number in (1, 6):
            network = Case(("d",)).change(6, "d", replaced(("difference", 1, 1, 2, 0), number)).run()
            self.assertEqual(sent(network, 1, 7), [])
            self.check_value(network, ("d",), (), 0)

    def test_a_missing_difference(self):
        network = Case(("d",)).change(6, "d", replaced(("difference", 1, 1, 2, 0), None)).run()
        self.assertEqual(sent(network, 1, 7), [])
        self.check_value(network, ("d",), (), 0)
        network = Case(("d",)).change(6, "d", replaced((), None)).run()
        self.check_value(network, ("d",), (), 0)

    def test_a_difference_of_a_share_that_the_server_does_not_hold(self):
        case = Case(("d",))
        messages = tuple(case.required(6, "d")) + (("", ("difference", 1, 1, 2, 3, 5)),)
        case.overrides = ((6, "d", messages),)
        self.check_value(case.run(), (), (), 0)

    def test_who_must_broadcast_what(self):
        network = Case(()).run()
        expected = []
        for server in range(4):
            for a in range(4):
                for b in range(4):
                    dealers = [m for m in range(4) if m not in (a, b)]
                    for m in dealers[1:]:
                        expected.extend(
                            ("abcd"[server], "", ("difference", a, b, m, k, 0)) for k in range(4) if k != server)
        self.assertEqual(sent(network, 1, 6), expected)


class OpeningTest(ProductTest):
    """A dealing with a wrong sum: the term (1, 1), of which a, c and d are dealers, is 2 * 2."""

    def lie_of(self, dealer, *, openly):
        """The dealer deals 6 instead of 4 as share 3 of its dealing, and perhaps stands by it."""
        case = Case((dealer,)).change(1, dealer, replaced(("share", (dealer, 1, 1), 3), 6))
        if openly:
            code = "abcd".index(dealer)
            difference = 5 if dealer == "a" else 2
            for m in (2, 3):
                if dealer == "a" or m == code:
                    case = self.and_then(case, 6, dealer, replaced(("difference", 1, 1, m, 3), difference))
            case = self.and_then(case, 7, dealer, replaced(("dealt", 1, 1, code, 3), 6))
        return case

    def and_then(self, case, turn, party, change):
        """A further change of messages that may have been changed already."""
        messages = [message for to, payload in case.required(turn, party) for message in change(to, payload)]
        others = tuple(entry for entry in case.overrides if entry[:2] != (turn, party))
        case.overrides = others + ((turn, party, tuple(messages)),)
        return case

    def test_a_wrong_first_dealing(self):
        for openly in (False, True):
            network = self.lie_of("a", openly=openly).run()
            self.assertEqual({payload[1:3] for _, _, payload in sent(network, 1, 7)}, {(1, 1)})
            self.check_value(network, ("a",), (), 1)
            # The opened term is 4, as a public value; all others are in the last share.
            self.assertEqual(self.shares(network), [4, 0, 0, 5])

    def test_a_wrong_dealing_of_another_dealer(self):
        for dealer in ("c", "d"):
            for openly in (False, True):
                network = self.lie_of(dealer, openly=openly).run()
                self.assertEqual({payload[1:3] for _, _, payload in sent(network, 1, 7)}, {(1, 1)})
                self.check_value(network, (dealer,), (), 1)
                self.assertEqual(self.shares(network), [4, 0, 0, 5])

    def test_what_is_broadcast_about_an_opened_term(self):
        network = self.lie_of("d", openly=False).run()
        expected = []
        for server in range(4):
            if server != 1:
                expected.append(("abcd"[server], "", ("left", 1, 1, 2)))
                expected.append(("abcd"[server], "", ("right", 1, 1, 2)))
            for m in (0, 2, 3):
                for k in range(4):
                    if k != server:
                        number = 0 if k < 3 else 6 if m == 3 and server != 3 else 4
                        expected.append(("abcd"[server], "", ("dealt", 1, 1, m, k, number)))
        self.assertEqual(sent(network, 1, 7), expected)

    def test_two_terms_are_opened(self):
        def change(to, payload):
            wrong = payload[1:3] in ((("a", 1, 2), 0), (("a", 3, 1), 2))
            return [(to, payload[:-1] + ((payload[-1] + 1) % 7,) if wrong else payload)]
        network = Case(("a",)).change(1, "a", change).run()
        rows = [payload[:3] for _, _, payload in sent(network, 1, 7, "b") if payload[0] != "dealt"]
        # b holds share 2 and share 3, but not share 1.
        self.assertEqual(rows, [("right", 1, 2), ("left", 3, 1)])
        self.assertEqual({payload[1:3] for _, _, payload in sent(network, 1, 7)}, {(1, 2), (3, 1)})
        order = [payload[1:3] for _, _, payload in sent(network, 1, 7, "c")]
        self.assertEqual(order, sorted(order))
        self.check_value(network, ("a",), (), 1)

    def test_lies_about_an_opened_term(self):
        for word in (("left", 1, 1), ("right", 1, 1), ("dealt", 1, 1, 2, 0), ("dealt", 1, 1, 0, 2)):
            for number in (1, None):
                case = Case(("d",)).change(1, "d", replaced(("share", ("d", 1, 1), 3), 6))
                network = case.change(7, "d", replaced(word, number)).run()
                self.check_value(network, ("d",), (), 1)
                self.assertEqual(self.shares(network), [4, 0, 0, 5])

    def test_messages_about_a_term_that_is_not_opened(self):
        case = Case(("d",))
        case.overrides = ((7, "d", (("", ("left", 0, 0, 6)), ("", ("dealt", 0, 0, 1, 0, 6)))),)
        self.check_value(case.run(), (), (), 0)

    def test_an_honest_dealing_of_the_liar_in_other_terms_still_counts(self):
        network = self.lie_of("a", openly=True).run()
        self.assertEqual([row[2][1] for row in sent(network, 1, 1, "a")][0], ("a", 1, 1))
        # Exposed for the term (1, 1), a is no dealer in the next multiplication.
        network.multiply("p", "z", "x", "y")
        self.assertEqual({row[0] for row in sent(network, 2, 1)}, {"b", "c", "d"})
        self.assertEqual(network.expected_value("z"), 1)

    def test_a_wrong_sum_that_no_share_tells(self):
        # The same lie to all holders, who complain about nothing.
        network = self.lie_of("a", openly=True).run()
        self.assertEqual(sent(network, 1, 3), [])


class FailureTest(ProductTest):
    def complaint_about(self, dealer):
        """The dealer gives one holder another share, and says nothing in round 5."""
        victim = "b" if dealer == "d" else "c"
        case = Case((dealer,))

        def change(to, payload):
            wrong = payload[1:3] == ((dealer, 2, 2), 0) and to == victim
            return [(to, payload[:-1] + (3,) if wrong else payload)]
        return case.change(1, dealer, change)

    def test_a_complaint_that_the_dealer_answers(self):
        network = self.complaint_about("d").run()
        self.assertEqual({row[0] for row in sent(network, 1, 3)}, {"b", "c"})
        self.assertEqual(sent(network, 1, 5), [("d", "", ("share", ("d", 2, 2), 0, 0))])
        self.check_value(network, (), (("b", "d"),), 1)
        self.assertEqual(self.shares(network), [0, 0, 0, 2])

    def test_a_dealer_that_fails_in_round_5(self):
        for dealer, code in (("a", 0), ("d", 3)):
            network = self.complaint_about(dealer).change(5, dealer, replaced((), None)).run()
            self.assertEqual(sent(network, 1, 5), [])
            # None of its dealings remains, not only the one that failed.
            self.assertEqual([payload for payload in words(network, 1, 6) if payload[3] == code], [])
            dealers = {payload[1:3]: set() for payload in words(network, 1, 6)}
            for payload in words(network, 1, 6):
                dealers[payload[1:3]].add(payload[3])
            for (a, b), others in dealers.items():
                remaining = [m for m in range(4) if m not in (a, b, code)]
                self.assertEqual(sorted(others), remaining[1:])
            self.check_value(network, (dealer,), (), 1)

    def disputed(self, faulty=("b",)):
        """b complains about d in a store, and the next operation is the multiplication."""
        complaint = (3, "b", (("", ("complaint", ("q",), 0, 3)),))
        return Case(faulty, (("store", ("q", "z", 4), (complaint,)),))

    def test_servers_in_dispute_get_broadcasts(self):
        case = self.disputed()
        self.assertEqual(case.started().disputes(), (("b", "d"),))
        network = case.run()
        for dealer, other in (("b", 3), ("d", 1)):
            for _, to, payload in sent(network, 2, 1, dealer):
                self.assertEqual(to == "", payload[2] != other, payload)
        for dealer in ("a", "c"):
            self.assertNotIn("", [to for _, to, _ in sent(network, 2, 1, dealer)])
        # Only share 3 of b's dealings and share 1 of d's are checked, and b and d never check each other.
        checked = {(payload[1][0], payload[2]) for _, _, payload in sent(network, 2, 2) if payload[1][0] in "bd"}
        self.assertEqual(checked, {("b", 3), ("d", 1)})
        self.assertFalse({("b", "d"), ("d", "b")} & {row[:2] for row in sent(network, 2, 2)})
        self.check_value(network, (), (("b", "d"),), 1)

    def test_a_dealer_has_what_it_broadcast(self):
        # b broadcasts 5 instead of 0 as share 2 of its dealing, and has no other number from then on.
        case = self.disputed().change(1, "b", replaced(("share", ("b", 0, 0), 2), 5))
        self.assertIn(("", ("share", ("b", 0, 0), 2, 5)), case.required(1, "b"))
        network = case.run()
        told = {payload[5] for _, _, payload in sent(network, 2, 6) if payload[1:5] == (0, 0, 2, 2)}
        self.assertEqual(told, {2})
        told = {payload[5] for _, _, payload in sent(network, 2, 7, "b") if payload[:5] == ("dealt", 0, 0, 1, 2)}
        self.assertEqual(told, {5})
        self.check_value(network, ("b",), (("b", "d"),), 2)

    def test_a_dealer_that_fails_in_round_1(self):
        case = self.disputed().change(1, "b", replaced(("share", ("b", 2, 3), 0), None))
        network = case.run()
        self.assertEqual([row for row in words(network, 2, 2) if row[1] == ("b", 2, 3)], [])
        # The other dealings of b go on, but none of them remains.
        self.assertNotEqual([row for row in words(network, 2, 2) if row[1] == ("b", 2, 2)], [])
        self.assertEqual([row for row in words(network, 2, 6) if row[3] == 1], [])
        self.check_value(network, ("b",), (("b", "d"),), 1)

    def test_a_complaint_about_another_dealing_of_a_failed_dealer_counts(self):
        case = self.disputed(("b",)).change(1, "b", replaced(("share", ("b", 2, 3), 0), None))
        # b says that a did not give it the right share of a's dealing.
        case.overrides += ((3, "b", (("", ("complaint", ("a", 1, 1), 2, 3)), ("", ("complaint", ("a", 1, 1), 3, 2)))),)
        network = case.run()
        self.assertEqual(sent(network, 2, 5), [("a", "", ("share", ("a", 1, 1), 3, 4))])
        self.check_value(network, ("b",), (("b", "c"), ("b", "d")), 2)

    def test_a_failure_in_round_1_of_a_dealing_silences_its_complaints(self):
        case = self.disputed(("b",)).change(1, "b", replaced(("share", ("b", 2, 3), 0), None))
        case.overrides += ((3, "b", (("", ("complaint", ("b", 2, 3), 3, 0)),)),)
        network = case.run()
        self.assertEqual((sent(network, 2, 4), sent(network, 2, 5)), ([], []))
        self.check_value(network, ("b",), (("b", "d"),), 1)

    def test_all_dealings_of_a_silent_dealer_are_0_or_fail(self):
        # Missing shares are 0 for all holders; a's own share is not, so it contradicts itself in round 6.
        network = Case(("a",)).change(1, "a", replaced((), None)).run()
        self.check_value(network, ("a",), (), 1)


class ExposedTest(ProductTest):
    def exposed_before(self, server="d"):
        return Case((server,), (("publish", ("q", "x"), ((1, server, ()),)),))

    def test_an_exposed_server_neither_deals_nor_holds(self):
        case = self.exposed_before()
        network = case.started()
        self.assertEqual(network.exposed(), ("d",))
        left = [network.remaining(server) for server in "abcd"]
        network = case.run()
        used = [before - network.remaining(server) for before, server in zip(left, "abcd")]
        self.assertEqual(used, [27, 27, 27, 0])
        self.assertEqual([row for row in sent(network, 2, 1) if "d" in row[:2]], [])
        for turn in (2, 6):
            self.assertEqual(sent(network, 2, turn, "d"), [])
        self.assertEqual(network.shares_at("d", "y"), (0, 0, 0, None))
        self.check_value(network, ("d",), (), 0)

    def test_an_exposed_server_needs_no_random_numbers(self):
        case = self.exposed_before()
        case.zeros = 27
        network = case.run()
        self.assertEqual([network.remaining(server) for server in "abcd"], [0, 0, 0, 27])

    def test_what_an_exposed_server_sends_has_no_effect(self):
        case = self.exposed_before()
        case.overrides = tuple((turn, "d", messages) for turn, messages in (
            (1, tuple((to, ("share", ("d", 0, 0), k, 1)) for to in "abc" for k in range(4))),
            (3, (("", ("complaint", ("a", 1, 1), 0, 1)), ("", ("complaint", ("a", 1, 1), 2, 1)))),
            (6, (("", ("difference", 0, 0, 3, 0, 1)), ("", ("difference", 0, 0, 2, 0, 1)))),
            (7, (("", ("left", 1, 1, 6)),)),
        ))
        self.check_value(case.run(), ("d",), (), 0)

    def test_an_opened_term_is_0_at_an_exposed_server(self):
        # Two servers may be faulty: one is exposed before, the other one deals a wrong product.
        servers = ("a", "b", "c", "d", "e", "f")
        sets = (("a", "b"), ("c", "d"))
        scheme = (7, servers, ("p", "q"), sets, (("a", "b"),))
        case = Case(("a", "b"), (("publish", ("q", "x"), ((1, "b", ()),)),), scheme)
        # Share 0 of x is 1, and share 1 is 3; a holds only the latter.
        network = case.change(1, "a", replaced(("share", ("a", 1, 1), 0), 5)).run()
        self.assertEqual({payload[1:3] for _, _, payload in sent(network, 2, 7)}, {(1, 1)})
        self.assertEqual((network.exposed(), network.incident_count()), (("a", "b"), 1))
        self.assertEqual(network.shares_at("b", "y"), (None, 0))
        # The term 9 is public; the others are 1, 3 and 3, in their last shares.
        self.assertEqual([network.shares_at(server, "y") for server in "acf"], [(None, 0), (2, None), (2, 0)])
        self.assertEqual(network.publish("q", "y"), 2)

    def test_an_opened_term_counts_in_the_first_share(self):
        # As before, but e is a holder of share 0 that is exposed: its part of the term is 0.
        servers = ("a", "b", "c", "d", "e", "f")
        scheme = (7, servers, ("p", "q"), (("a", "b"), ("d", "e")), (("d", "e"),))
        case = Case(("d", "e"), (("publish", ("q", "x"), ((1, "e", ()),)),), scheme)
        network = case.change(1, "d", replaced(("share", ("d", 0, 0), 1), 5)).run()
        self.assertEqual({payload[1:3] for _, _, payload in sent(network, 2, 7)}, {(0, 0)})
        self.assertEqual((network.exposed(), network.shares_at("e", "y")), (("d", "e"), (0, None)))
        self.assertEqual([network.shares_at(server, "y") for server in "acf"], [(None, 1), (1, 1), (1, 1)])
        self.assertEqual(network.publish("q", "y"), 2)


class SmallTest(ProductTest):
    def test_one_observer_set(self):
        network = Network(ONE_SHARE, (), ())
        network.store("q", "x", 4)
        network.multiply("p", "y", "x", "x")
        self.assertEqual(len(sent(network, 1, 1)), 12)
        self.assertEqual([row[2] for row in sent(network, 1, 6, "a")], [("difference", 0, 0, m, 0, 0) for m in (1, 2, 3)])
        self.assertEqual([network.shares_at(server, "y") for server in "abcd"], [(2,)] * 4)

    def test_a_faulty_dealer_with_one_observer_set(self):
        # The observer set contains the fault set; all honest holders have the one share.
        scheme = (7, ("a", "b", "c"), ("p",), (("a",),), (("a",),))
        network = Network(scheme, ("a",), ())
        network.store("p", "x", 3)
        network.multiply("p", "y", "x", "x", overrides=((1, "a", ()),))
        self.assertEqual((network.exposed(), network.expected_value("y")), ((), 2))
        self.assertEqual(network.shares_at("b", "y"), (2,))

    def test_only_honest_servers(self):
        for value in range(7):
            network = Network(THREE, (), tuple((name, (5, 6, 1, 2) * 9) for name in ("a", "b", "c", "p")))
            network.store("p", "x", value)
            network.multiply("q", "x", "x", "x")
            self.assertEqual(network.read("p", "x"), (value * value % 7, ()))


if __name__ == "__main__":
    unittest.main()
