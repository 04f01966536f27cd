"""Point 10: which overrides are valid, and what replaces what."""

import copy
import unittest

from lotkept.errors import InvalidOverrides
from tests.any_values import any_values
from tests.helpers import FOUR, network_of, sent, state_of

CALLS = (
    ("store", ("p", "y", 1), 5), ("add", ("p", "y", "x", "x"), 0), ("scale", ("p", "y", 2, "x"), 0),
    ("multiply", ("p", "y", "x", "x"), 7), ("read", ("q", "x"), 1), ("publish", ("q", "x"), 1),
)


def stored():
    network = network_of(FOUR, ("d", "p"))
    network.store("q", "x", 4)
    return network


class FormTest(unittest.TestCase):
    def is_valid(self, overrides):
        """Whether all operations take the overrides; those that do not must leave everything as it is."""
        answers = []
        before = copy.deepcopy(overrides)
        for word, arguments, _ in CALLS:
            network = stored()
            state = state_of(network, FOUR)
            try:
                getattr(network, word)(*arguments, overrides=overrides)
                answers.append(True)
            except InvalidOverrides as error:
                self.assertIs(error.value, overrides)
                self.assertEqual(state_of(network, FOUR), state)
                answers.append(False)
            self.assertEqual(repr(overrides), repr(before))
        self.assertIn(answers, ([True] * 6, [False] * 6), overrides)
        return answers[0]

    def test_valid_ones(self):
        for overrides in (
            (), ((1, "d", ()),), ((1, "p", ()), (1, "d", ())), ((2, "d", ()), (1, "d", ())),
            ((1, "d", (("", None),)),), ((10 ** 39, "p", (("a", ()), ("d", [])),),), ((8, "d", (("q", 1), ("q", 1))),),
            ((1, "d", (("", ("share", ("p",), 0, 1)),) * 1000),),
        ):
            self.assertTrue(self.is_valid(overrides), overrides)

    def test_every_value_as_overrides(self):
        for thing in any_values():
            self.assertEqual(self.is_valid(thing), isinstance(thing, tuple) and thing == (), thing)

    def test_every_value_as_an_entry(self):
        for thing in any_values():
            self.assertFalse(self.is_valid((thing,)))
            self.assertFalse(self.is_valid(((1, "d", ()), thing)))

    def test_every_value_as_a_round(self):
        for thing in any_values():
            fits = type(thing) is int and thing >= 1
            self.assertEqual(self.is_valid(((thing, "d", ()),)), fits, thing)

    def test_every_value_as_a_party(self):
        for thing in any_values():
            self.assertFalse(self.is_valid(((1, thing, ()),)), thing)
        for party in ("a", "b", "c", "q", "x", "", "D", ("d",)):
            self.assertFalse(self.is_valid(((1, party, ()),)), party)

    def test_every_value_as_the_messages(self):
        for thing in any_values():
            fits = isinstance(thing, tuple) and all(
                isinstance(pair, tuple) and len(pair) == 2 and pair[0] in ("", "a", "b", "c", "d", "p", "q")
                for pair in thing
            )
            self.assertEqual(self.is_valid(((1, "d", thing),)), fits, thing)

    def test_every_value_as_a_message_or_a_recipient(self):
        for thing in any_values():
            # A pair that begins with a party is a message.
            fits = isinstance(thing, tuple) and len(thing) == 2 and thing[0] in ("a", "b")
            self.assertEqual(self.is_valid(((1, "d", (("", 1), thing)),)), fits, thing)
            fits = isinstance(thing, str) and thing in ("", "a")
            self.assertEqual(self.is_valid(((1, "d", ((thing, ("share", ("p",), 0, 1)),)),)), fits, thing)

    def test_every_value_as_a_payload(self):
        for thing in any_values():
            self.assertTrue(self.is_valid(((1, "d", (("", thing), ("q", thing))), (2, "p", (("a", thing),)))), thing)

    def test_other_invalid_ones(self):
        entry = (1, "d", ())
        for overrides in (
            [entry], entry, (list(entry),), (entry + ((),),), (entry[:2],), ((0, "d", ()),), ((-1, "d", ()),),
            ((1, "d", [("", 1)]),), ((1, "d", ((),)),), ((1, "d", (("",),)),), ((1, "d", (("", 1, 2),)),),
            ((1, "d", (["", 1],)),), ((1, "d", ("", 1)),), ((1, "d", (("x", 1),)),), ((1, "d", ((None, 1),)),),
            ((1, "d", (("-", 1),)),), ((1, ["d"], ()),), (("d", 1, ()),), ((1, "d", {}),), ((1, "d", None),),
            ((True, "d", ()),), (("1", "d", ()),), {"d": ()}, (None,), "d", None, False, 0,
        ):
            self.assertFalse(self.is_valid(overrides), overrides)

    def test_two_entries_for_one_round_and_party(self):
        self.assertFalse(self.is_valid(((1, "d", ()), (1, "d", ()))))
        self.assertFalse(self.is_valid(((1, "d", ()), (1, "p", ()), (1, "d", (("", 1),)))))
        self.assertFalse(self.is_valid(((9, "d", ()), (9, "d", ()))))
        self.assertTrue(self.is_valid(((1, "d", ()), (2, "d", ()), (1, "p", ()))))

    def test_without_faulty_parties_there_are_no_entries(self):
        for party in FOUR[1] + FOUR[2]:
            network = network_of(FOUR)
            with self.assertRaises(InvalidOverrides):
                network.store("p", "x", 1, overrides=((1, party, ()),))
            network.store("p", "x", 1, overrides=())


class ReplacementTest(unittest.TestCase):
    def test_an_entry_replaces_all_messages_of_this_round_and_party(self):
        messages = (("q", 5), ("", ("x",)), ("d", ()), ("q", 5), ("a", ("echo", ("p",), 1, 1)))
        for word, arguments, last in CALLS:
            for turn in range(1, last + 1):
                plain, network = stored(), stored()
                getattr(plain, word)(*arguments)
                getattr(network, word)(*arguments, overrides=((turn, "d", messages),))
                expected = [("d",) + message for message in messages]
                self.assertEqual(sent(network, 1, turn, "d"), expected)
                for party in ("a", "b", "c", "p", "q"):
                    self.assertEqual(sent(network, 1, turn, party), sent(plain, 1, turn, party))
                for earlier in range(1, turn):
                    self.assertEqual(sent(network, 1, earlier), sent(plain, 1, earlier))

    def test_several_entries_in_any_order(self):
        network = stored()
        overrides = ((5, "p", (("", 1),)), (2, "d", ()), (1, "d", (("a", 2),)), (2, "p", (("a", 3), ("a", 4))))
        network.store("p", "y", 1, overrides=overrides)
        self.assertEqual(sent(network, 1, 5), [("p", "", 1)])
        self.assertEqual(sent(network, 1, 1, "d"), [("d", "a", 2)])
        self.assertEqual((sent(network, 1, 2, "d"), sent(network, 1, 2, "p")), ([], [("p", "a", 3), ("p", "a", 4)]))

    def test_an_entry_after_the_last_round_has_no_effect(self):
        for word, arguments, last in CALLS:
            plain, network = stored(), stored()
            result = getattr(plain, word)(*arguments)
            overrides = tuple((turn, "d", (("", ("report", 0, 0)),)) for turn in (last + 1, last + 2, 10 ** 39))
            self.assertEqual(getattr(network, word)(*arguments, overrides=overrides), result)
            self.assertEqual(state_of(network, FOUR), state_of(plain, FOUR), word)

    def test_overrides_that_equal_the_required_messages(self):
        for word, arguments, last in CALLS:
            plain, network = stored(), stored()
            result = getattr(plain, word)(*arguments)
            overrides = tuple(
                (turn, party, tuple(row[1:] for row in sent(plain, 1, turn, party)))
                for turn in range(1, last + 1) for party in ("d", "p")
            )
            self.assertEqual(getattr(network, word)(*arguments, overrides=overrides), result)
            self.assertEqual(state_of(network, FOUR), state_of(plain, FOUR), word)

    def test_overrides_hold_for_one_operation(self):
        network = stored()
        network.read("q", "x", overrides=((1, "d", ()),))
        network.read("q", "x")
        self.assertEqual((len(sent(network, 1, 1)), len(sent(network, 2, 1))), (9, 12))

    def test_what_the_caller_changes_afterwards_has_no_effect(self):
        payload = [1, {"a": [2]}, ([3],)]
        network = stored()
        network.read("q", "x", overrides=((1, "d", (("q", payload), ("", (payload,)))),))
        before = state_of(network, FOUR)
        payload.append(4)
        payload[1]["a"].append(5)
        payload[2][0].append(6)
        self.assertEqual(state_of(network, FOUR), before)
        for answer in (network.messages(), network.view(("d",))[0]):
            rows = [row for row in answer if row[2] == "d" and row[0] == 1]
            self.assertEqual(rows[0][4], [1, {"a": [2]}, ([3],)])
            rows[0][4].append(7)
            rows[0][4][1]["a"].append(8)
            rows[1][4][0][2][0].append(9)
            self.assertEqual(state_of(network, FOUR), before)

    def test_the_kinds_of_a_payload_are_kept(self):
        for thing in any_values():
            network = stored()
            network.publish("q", "x", overrides=((1, "p", (("a", thing),)),))
            shown = sent(network, 1, 1, "p")
            self.assertEqual(repr(shown), repr([("p", "a", thing)]))


if __name__ == "__main__":
    unittest.main()
