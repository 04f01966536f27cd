"""Point 9: which messages count, and which have no effect."""

import unittest

from lotkept.mail import Mail
from tests.any_values import any_values
from tests.helpers import FOUR, Network, network_of, sent

SHARES = (1, 2, 3, 5)
NAME = ("p",)
OTHER = ("share", "echo", "claim", "complaint", "report", "left", "right", "dealt", "difference")


def stored(faulty):
    """A network in which p stored 4 with the shares 1, 2, 3 and 5; share 0 is that of b, c and d."""
    network = Network(FOUR, faulty, (("a", (0,) * 99), ("b", (0,) * 99), ("c", (0,) * 99), ("d", (0,) * 99),
                                     ("p", (1, 2, 3) * 9), ("q", (1, 2, 3) * 9)))
    network.store("p", "x", 4)
    return network


def wrong_payloads(parts, number):
    """Payloads that are not the parts and a value."""
    found = [parts, parts + (0, number), parts + (number, 0), parts[1:] + (number,), list(parts) + [number], parts[:-1]]
    found.extend(parts + (bad,) for bad in (True, False, None, -1, 7, 10 ** 39, str(number), (number,), [number], {}))
    for at, part in enumerate(parts):
        for other in (True, False, None, 7, "", (), [part], (part,), str(part) + "x"):
            found.append(parts[:at] + (other,) + parts[at + 1:] + (number,))
    return found + [(), [], {}, "", "report", 0, None, True, (number,), [[number]], ((parts, number),)]


class ReadTest(unittest.TestCase):
    """Whether the client p accepts the number 6 of d, whose share 0 is 1."""

    GOOD = ("p", ("report", 0, 6))

    def accepts(self, *messages):
        network = stored(("d",))
        value, deviating = network.read("p", "x", overrides=((1, "d", messages),))
        self.assertEqual(value, 4)
        self.assertEqual([row[1:] for row in sent(network, 1, 1, "d")], list(messages))
        self.assertIn(deviating, ((), ("d",)))
        return deviating == ("d",)

    def test_once(self):
        self.assertTrue(self.accepts(self.GOOD))
        self.assertFalse(self.accepts())
        self.assertFalse(self.accepts(("p", ("report", 0, 1))))

    def test_twice_alike_or_not(self):
        self.assertFalse(self.accepts(self.GOOD, self.GOOD))
        self.assertFalse(self.accepts(self.GOOD, self.GOOD, self.GOOD))
        for ending in (0, 1, 5, 7, -1, True, False, None, "6", (), [], {"a": 1}, 10 ** 39):
            self.assertFalse(self.accepts(self.GOOD, ("p", ("report", 0, ending))), ending)
            self.assertFalse(self.accepts(("p", ("report", 0, ending)), self.GOOD), ending)

    def test_other_payloads_are_not_accepted_and_do_not_disturb(self):
        for payload in wrong_payloads(("report", 0), 6):
            message = ("p", payload)
            self.assertFalse(self.accepts(message), payload)
            # Another ending behind the same parts does disturb.
            disturbs = isinstance(payload, tuple) and len(payload) == 3 and repr(payload[:2]) == "('report', 0)"
            self.assertEqual(self.accepts(self.GOOD, message), not disturbs, payload)
            self.assertEqual(self.accepts(message, self.GOOD), not disturbs, payload)

    def test_every_value_as_payload(self):
        for thing in any_values():
            self.assertFalse(self.accepts(("p", thing)))
            self.assertTrue(self.accepts(("p", thing), self.GOOD))

    def test_another_recipient_or_a_broadcast(self):
        for recipient in ("", "q", "a", "d"):
            self.assertFalse(self.accepts((recipient, self.GOOD[1])), recipient)
            self.assertTrue(self.accepts((recipient, self.GOOD[1]), self.GOOD), recipient)
            self.assertTrue(self.accepts(self.GOOD, (recipient, ("report", 0, 5))), recipient)

    def test_a_share_that_the_server_does_not_hold(self):
        self.assertFalse(self.accepts(("p", ("report", 3, 6))))
        self.assertTrue(self.accepts(("p", ("report", 3, 6)), self.GOOD))
        for index in (4, -1, 99):
            self.assertFalse(self.accepts(("p", ("report", index, 6))))

    def test_every_value_of_the_scheme_is_accepted(self):
        for number in range(7):
            self.assertEqual(self.accepts(("p", ("report", 0, number))), number != 1)

    def test_true_is_not_one_among_the_parts(self):
        self.assertTrue(self.accepts(("p", ("report", 1, 6))))
        self.assertFalse(self.accepts(("p", ("report", True, 6))))
        self.assertFalse(self.accepts(("p", ("report", False, 6))))

    def test_another_word_or_round(self):
        for word in OTHER:
            self.assertEqual(self.accepts(("p", (word, 0, 6))), word == "report", word)


class PublishTest(unittest.TestCase):
    """Whether everybody accepts what d broadcasts; it is exposed if one of its three shares is missing."""

    REST = (("", ("report", 1, 2)), ("", ("report", 2, 3)))

    def accepts(self, *messages):
        network = stored(("d",))
        self.assertEqual(network.publish("q", "x", overrides=((1, "d", messages + self.REST),)), 4)
        self.assertIn(network.exposed(), ((), ("d",)))
        return network.exposed() == ()

    def test_broadcasts(self):
        good = ("", ("report", 0, 1))
        self.assertTrue(self.accepts(good))
        self.assertFalse(self.accepts())
        self.assertFalse(self.accepts(good, good))
        self.assertFalse(self.accepts(("", ("report", 0, 2))))
        for recipient in ("a", "b", "c", "d", "p", "q"):
            self.assertFalse(self.accepts((recipient, good[1])), recipient)
            self.assertTrue(self.accepts((recipient, good[1]), good), recipient)
            self.assertTrue(self.accepts(good, (recipient, ("report", 0, 5))), recipient)
        # True is not an accepted 1.
        self.assertFalse(self.accepts(("", ("report", 0, True))))
        for payload in wrong_payloads(("report", 0), 1):
            self.assertFalse(self.accepts(("", payload)), payload)


class StoreTest(unittest.TestCase):
    """Whether holders accept what the faulty client p sends in round 1, seen by what they echo in round 2."""

    def echoes(self, messages, holder="b", k=0):
        network = network_of(FOUR, ("p",))
        network.store("p", "x", 4, overrides=((1, "p", tuple(messages)),))
        found = {row[2][3] for row in sent(network, 0, 2, holder) if row[2][2] == k}
        self.assertEqual(len(found), 1)
        return found.pop()

    def test_a_holder_that_accepts_nothing_has_0(self):
        good = ("b", ("share", NAME, 0, 6))
        self.assertEqual(self.echoes([good]), 6)
        self.assertEqual(self.echoes([]), 0)
        self.assertEqual(self.echoes([good, good]), 0)
        self.assertEqual(self.echoes([good, ("b", ("share", NAME, 0, True))]), 0)
        self.assertEqual(self.echoes([good, ("b", ("share", NAME, 1, 3)), ("c", ("share", NAME, 0, 2))]), 6)

    def test_other_payloads(self):
        good = ("b", ("share", NAME, 0, 6))
        for payload in wrong_payloads(("share", NAME, 0), 6):
            self.assertEqual(self.echoes([("b", payload)]), 0, payload)
            disturbs = isinstance(payload, tuple) and repr(payload[:-1]) == "('share', ('p',), 0)"
            self.assertEqual(self.echoes([good, ("b", payload)]), 0 if disturbs else 6, payload)

    def test_names(self):
        for name in (("q",), ("p", 0, 0), ("p", 0), ["p"], "p", (), (("p",),), ("p", None), ("a",)):
            self.assertEqual(self.echoes([("b", ("share", name, 0, 6))]), 0, name)

    def test_a_broadcast_where_none_is_required(self):
        for payload in (("share", NAME, 0, 6), ("share", NAME, 1, 6)):
            self.assertEqual(self.echoes([("", payload)]), 0)
            self.assertEqual(self.echoes([("", payload), ("b", ("share", NAME, 0, 5))]), 5)

    def test_share_one_is_not_share_true(self):
        self.assertEqual(self.echoes([("a", ("share", NAME, True, 6))], "a", 1), 0)
        self.assertEqual(self.echoes([("a", ("share", NAME, 1, 6))], "a", 1), 6)

    def test_the_messages_of_another_sender(self):
        network = network_of(FOUR, ("d", "p"))
        overrides = ((1, "p", ()), (1, "d", (("b", ("share", NAME, 0, 6)), ("b", ("share", ("d",), 0, 6)))))
        network.store("p", "x", 4, overrides=overrides)
        self.assertEqual({row[2][3] for row in sent(network, 0, 2)}, {0})
        self.assertEqual((network.expected_value("x"), network.exposed()), (0, ()))


class TermTest(unittest.TestCase):
    """In a multiplication, the name of a dealing has numbers in it."""

    def test_false_is_not_zero_within_a_name(self):
        for name, accepted in ((("d", 0, 0), True), (("d", False, 0), False), (("d", 0, False), False),
                               (("d", 0, 1), False), (["d", 0, 0], False), (("d", 0), False), (("d", 0, 0, 0), False)):
            network = stored(("d",))
            messages = (("b", ("share", name, 0, 6)),)
            network.multiply("p", "y", "x", "x", overrides=((1, "d", messages),))
            told = {
                row[2][3] for row in sent(network, 1, 2, "b") if repr(row[2][1:3]) == "(('d', 0, 0), 0)"
            }
            self.assertEqual(told, {6 if accepted else 0}, name)


class ComplaintTest(unittest.TestCase):
    """Whether the complaint of d about b, share 0 of p's dealing, is accepted."""

    GOOD = ("", ("complaint", NAME, 0, 1))

    def counts(self, *messages, turn=3):
        network = network_of(FOUR, ("d",))
        network.store("p", "x", 4, overrides=((turn, "d", messages),))
        self.assertEqual((network.expected_value("x"), network.exposed()), (4, ()))
        self.assertEqual(network.disputes(), (("b", "d"),) if network.incident_count() else ())
        return network.incident_count() == 1

    def test_once_or_more(self):
        self.assertTrue(self.counts(self.GOOD))
        self.assertTrue(self.counts(self.GOOD, self.GOOD))
        self.assertTrue(self.counts(*[self.GOOD] * 5))
        self.assertTrue(self.counts(self.GOOD, ("", ("complaint", NAME, 0, None)), ("", ("complaint", NAME, 0, True))))

    def test_other_forms(self):
        for payload in wrong_payloads(("complaint", NAME, 0), 1):
            self.assertFalse(self.counts(("", payload)), payload)
            self.assertTrue(self.counts(("", payload), self.GOOD), payload)

    def test_only_a_broadcast_in_round_3(self):
        for recipient in ("a", "b", "c", "d", "p", "q"):
            self.assertFalse(self.counts((recipient, self.GOOD[1])), recipient)
        for turn in (1, 2, 4, 5, 6):
            self.assertFalse(self.counts(self.GOOD, turn=turn), turn)


class AdditionalTest(unittest.TestCase):
    """Messages that nobody requires change nothing but the messages."""

    def facts(self, network):
        return (
            [network.shares_at(server, key) for key in network.stored_keys() for server in FOUR[1]],
            network.exposed(), network.disputes(), network.incident_count(), network.round_count(),
            [network.expected_value(key) for key in network.stored_keys()],
            [network.remaining(party) for party in ("a", "b", "c", "d", "p", "q")],
        )

    def additional(self, turn):
        found = []
        for recipient in ("", "a", "b", "c", "d", "p", "q"):
            for name in (NAME, ("q",), ("d",), ("d", 0, 3), ("a", 0, 0), ("b", 9, 9)):
                found.append((recipient, ("claim", name, 0, 1)) if turn != 4 else (recipient, ("echo", name, 0, 1)))
                found.append((recipient, ("complaint", name, 3, 1)))
                found.append((recipient, ("complaint", name, 0, 3)))
                found.append((recipient, ("complaint", name, 0, 0)))
            found.append((recipient, ("left", 0, 0, 1)) if turn != 7 else (recipient, ("difference", 0, 0, 1, 0, 1)))
            found.append((recipient, ("difference", 0, 0, 0, 0, 1)))
            found.append((recipient, ("report", 3, 4)))
            found.append((recipient, "hello"))
        return tuple(found)

    def test_all_operations(self):
        for word, arguments, last in (
            ("store", ("q", "y", 3), 5), ("add", ("p", "y", "x", "x"), 1), ("scale", ("p", "y", 3, "x"), 1),
            ("multiply", ("p", "y", "x", "x"), 7), ("read", ("q", "x"), 1), ("publish", ("q", "x"), 1),
        ):
            plain = stored(("d", "p"))
            result = getattr(plain, word)(*arguments)
            for turn in range(1, last + 1):
                network = stored(("d", "p"))
                overrides = tuple(
                    (turn, party, tuple(row[1:] for row in sent(plain, 1, turn, party)) + self.additional(turn))
                    for party in ("p", "d")
                )
                self.assertEqual(getattr(network, word)(*arguments, overrides=overrides), result)
                self.assertEqual(self.facts(network), self.facts(plain), (word, turn))


class MailTest(unittest.TestCase):
    def test_what_is_accepted_from_whom(self):
        mail = Mail(FOUR, [("a", "b", ("x", 1, 5)), ("a", "", ("x", 1, 4)), ("c", "b", ("x", 1, 3))])
        self.assertEqual(mail.accepted("a", "b", ("x", 1)), 5)
        self.assertEqual(mail.accepted("a", "", ("x", 1)), 4)
        self.assertEqual(mail.accepted("c", "b", ("x", 1)), 3)
        self.assertIsNone(mail.accepted("b", "a", ("x", 1)))
        self.assertIsNone(mail.accepted("a", "b", ("x", True)))
        self.assertIsNone(mail.accepted("a", "b", ("x",)))
        self.assertTrue(mail.has_arrived("a", "", ("x", 1), 4))
        self.assertFalse(mail.has_arrived("a", "", ("x", 1), 5))


if __name__ == "__main__":
    unittest.main()
