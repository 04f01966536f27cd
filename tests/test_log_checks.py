"""Point 21: what a log shows of its party."""

import copy
import random
import unittest

from lotkept.errors import InvalidLog
from lotkept.log_checks import first_deviation
from lotkept.logs import party_log
from lotkept.networks import Network
from lotkept.scenarios import run_scenario
from tests.any_values import any_values
from tests.forgeries import random_case, random_faulty, random_numbers, random_overrides
from tests.helpers import FIVE, FOUR, ONE_SHARE, THREE, TWO, network_of, numbers_for
from tests.log_changes import changed_log, has_form, message_rows
from tests.log_oracle import judge
from tests.oracle import Oracle
from tests.places import at_place, places, put

DENSE = (3, ("a", "b", "c", "d", "e"), ("p", "q"), FIVE[3][:4], FIVE[3][:4])
NO_PRODUCTS = (7, ("a", "b"), ("p", "q"), (("a",), ("b",)), ((),))


def found_in(scheme, party, log):
    try:
        return first_deviation(scheme, party, log)
    except InvalidLog:
        return "InvalidLog"


class Watcher(Oracle):
    """The second account of the operations, which notes the first deviation of each party."""

    def __init__(self, scheme, faulty, randomness):
        super().__init__(scheme, faulty, randomness)
        self.deviations = {party: None for party in self.numbers}

    def deliver(self, required):
        now = super().deliver(required)
        for party, found in self.deviations.items():
            wanted, sent = [sorted(repr(row) for row in rows if row[0] == party) for rows in (required, now)]
            if found is None and wanted != sent:
                self.deviations[party] = (self.operations, self.turn)
        return now


def everything(scheme, faulty=(), **overrides):
    """A network that ran every operation; overrides by word, for the first operation with this word."""
    network = network_of(scheme, faulty)
    steps = [
        ("store", ("p", "x", 1)), ("store", (scheme[2][-1], "y", 0)), ("add", ("p", "z", "x", "y")),
        ("scale", ("p", "y", 1, "z")), ("multiply", ("p", "w", "y", "x")), ("read", ("p", "w")), ("publish", ("p", "x")),
    ]
    for word, arguments in steps:
        getattr(network, word)(*arguments, overrides=overrides.pop(word, ()))
    return network


class LogCheckTest(unittest.TestCase):
    def check(self, scheme, party, log):
        """Compare with the second account."""
        before = copy.deepcopy(log)
        expected = judge(scheme, party, log)
        self.assertEqual(found_in(scheme, party, log), expected, log)
        self.assertEqual(repr(log), repr(before))
        return expected


class NetworkLogTest(LogCheckTest):
    def check_network(self, case):
        scheme, faulty, randomness, operations = case
        watcher = Watcher(scheme, faulty, randomness)
        for word, arguments, overrides in operations:
            getattr(watcher, word)(*arguments, overrides=overrides)
        network = run_scenario(case)
        for party, expected in watcher.deviations.items():
            log = party_log(network, party)
            self.assertEqual(first_deviation(scheme, party, log), expected, party)
            if party in faulty:
                self.assertEqual(first_deviation(thing=log, party=party, scheme=scheme), expected)
                self.assertEqual(judge(scheme, party, log), expected)
            if party not in faulty:
                self.assertIsNone(expected)
        return sum(expected is not None for expected in watcher.deviations.values())

    def test_random_scenarios(self):
        found = 0
        for seed in range(100):
            chance = random.Random(seed)
            with self.subTest(seed=seed):
                found += self.check_network(random_case(chance, 7, chance.random() < 0.5))
        self.assertGreater(found, 50)

    def test_random_scenarios_in_which_all_is_as_required(self):
        for seed in range(20):
            chance = random.Random(seed)
            with self.subTest(seed=seed):
                case = random_case(chance, 6, chance.random() < 0.5, honest=True)
                self.assertEqual(self.check_network(case), 0)

    def test_products(self):
        opened = found = 0
        for seed in range(24):
            chance = random.Random(seed)
            scheme = chance.choice((FOUR, FOUR, DENSE))
            faulty = random_faulty(chance, scheme)
            randomness = random_numbers(chance, scheme, 160)
            network = Network(scheme, faulty, randomness)
            operations = ()
            for word, arguments in (
                ("store", ("p", "x", 2)), ("store", ("q", "y", 1)), ("multiply", ("p", "z", "x", "y")),
                ("multiply", ("q", "z", "z", "x")), ("read", ("p", "z")),
            ):
                overrides = random_overrides(chance, network, scheme, faulty, (word, arguments), 0.2)
                getattr(network, word)(*arguments, overrides=overrides)
                operations += ((word, arguments, overrides),)
            with self.subTest(seed=seed):
                found += self.check_network((scheme, faulty, randomness, operations))
                opened += any(row[1] == 7 and row[4][0] == "left" for row in network.messages() if row[2] not in faulty)
        self.assertGreater(min(opened, found), 2)

    def test_overrides_that_are_what_is_required(self):
        honest = everything(FOUR)
        rows = honest.messages()
        operations = []
        for at, entry in enumerate(party_log(honest, "p")):
            arguments = entry[1]
            if entry[0] == "store" and arguments[0] == "q":
                arguments = party_log(honest, "q")[at][1]
            overrides = tuple(
                (turn, party, tuple(row[3:] for row in reversed(rows) if row[:3] == (at, turn, party)))
                for turn in range(1, 8) for party in ("d", "p")
            )
            operations.append((entry[0], arguments, overrides))
        self.assertEqual(self.check_network((FOUR, ("d", "p"), numbers_for(FOUR), tuple(operations))), 0)

    def test_the_first_of_several(self):
        forged = tuple((turn, "d", (("", ("noise", turn)),)) for turn in (2, 4, 5))
        network = everything(FOUR, ("d",), store=forged, read=((1, "d", ()),))
        self.assertEqual(first_deviation(FOUR, "d", party_log(network, "d")), (0, 2))
        network = everything(FOUR, ("d",), read=((1, "d", ()),), publish=((1, "d", ()),))
        self.assertEqual(first_deviation(FOUR, "d", party_log(network, "d")), (5, 1))
        network = everything(FOUR, ("d",), multiply=((6, "d", ()), (4, "d", (("", 1),))), publish=((1, "d", ()),))
        self.assertEqual(first_deviation(FOUR, "d", party_log(network, "d")), (4, 4))
        for party in "abcpq":
            self.assertIsNone(first_deviation(FOUR, party, party_log(network, party)))

    def test_a_faulty_dealer(self):
        forged = tuple((turn, "p", ()) for turn in (1, 5))
        network = everything(FOUR, ("p",), store=forged)
        self.assertEqual(first_deviation(FOUR, "p", party_log(network, "p")), (0, 1))
        # An exposed client is required to send nothing.
        complaint = (3, "d", (("", ("complaint", ("p",), 0, 1)),))
        network = network_of(FOUR, ("d", "p"))
        network.store("p", "x", 3, overrides=(complaint, (5, "p", ())))
        network.store("p", "x", 4)
        self.assertEqual(network.exposed(), ("p",))
        self.assertEqual(first_deviation(FOUR, "p", party_log(network, "p")), (0, 5))
        again = party_log(network, "p")[1]
        self.assertEqual([row[:2] for row in again[3]], [((), ())] * 5)
        network = network_of(FOUR, ("d", "p"))
        network.store("p", "x", 3, overrides=(complaint, (5, "p", ())))
        network.store("p", "x", 4, overrides=((3, "p", (("", 0),)),))
        log = party_log(network, "p")
        honest = log[0][3][:4] + ((log[0][3][4][0], (("p", "", ("share", ("p",), 0, 4)),), log[0][3][4][2]),)
        self.assertEqual(self.check(FOUR, "p", (log[0][:3] + (honest,),) + log[1:]), (1, 3))


class ChangedLogTest(LogCheckTest):
    def logs(self):
        for scheme in (TWO, THREE, FOUR, ONE_SHARE):
            forged = ((3, "d", (("", ("complaint", ("p",), 0, 1)),)), (2, "d", (("a", ("echo", ("p",), 1, 6)),)))
            faulty, overrides = (("d",), {"store": forged}) if scheme is FOUR else ((), {})
            network = everything(scheme, faulty, **overrides)
            for party in scheme[1] + scheme[2]:
                if party not in faulty:
                    yield scheme, party, party_log(network, party)

    def variants(self, row, at, party):
        """What may be sent in place of one message, and is not as required."""
        sender, recipient, payload = row[at]
        others = [(), (row[at], row[at]), (row[at], (sender, "", ("more",)))]
        elsewhere = [to for to in ("", "a", "b", "p", party) if to != recipient]
        others.extend([((sender, to, payload),) for to in elsewhere])
        payloads = [payload[:-1] + (number,) for number in (payload[-1] + 1, -1, str(payload[-1]), None, bool(payload[-1]))]
        payloads.extend([payload[1:], payload + (0,), list(payload), payload[:-1], (payload,), ("",) + payload[1:]])
        payloads.extend([
            payload[:place] + (bool(part),) + payload[place + 1:]
            for place, part in enumerate(payload) if part in (0, 1)
        ])
        others.extend([((sender, recipient, other),) for other in payloads])
        return [row[:at] + other + row[at + 1:] for other in others]

    def test_every_message_that_is_sent(self):
        for scheme, party, log in self.logs():
            for place in message_rows(log):
                row = at_place(log, place)
                if place[3] == 1:
                    for at in sorted({0, len(row) // 2, len(row) - 1} - {-1}) if row else ():
                        for other in self.variants(row, at, party):
                            changed = put(log, place, other)
                            self.assertEqual(first_deviation(scheme, party, changed), (place[0], place[2] + 1), other)

    def test_messages_that_are_added(self):
        for scheme, party, log in self.logs():
            for place in message_rows(log):
                if place[3] == 1:
                    for recipient, payload in (
                        ("", ("more",)), (party, None), ("a", ()), ("p", {}), ("b", ("share", ("p",), 0, 0)), ("", [0]),
                    ):
                        changed = put(log, place, at_place(log, place) + ((party, recipient, payload),))
                        self.assertEqual(first_deviation(scheme, party, changed), (place[0], place[2] + 1))

    def test_the_order_of_messages_does_not_matter(self):
        chance = random.Random(0)
        for scheme, party, log in self.logs():
            changed = log
            for place in message_rows(log):
                row = list(at_place(log, place))
                chance.shuffle(row)
                changed = put(changed, place, tuple(row))
            self.assertIsNone(first_deviation(scheme, party, changed))
            self.assertIsNone(first_deviation(scheme, party, tuple(
                entry[:3] + (tuple(row[:1] + (row[1][::-1], row[2][::-1]) for row in entry[3]),) for entry in log
            )))

    def test_every_message_that_is_received(self):
        for scheme, party, log in self.logs():
            for place in message_rows(log):
                row = at_place(log, place)
                if place[3] == 2 and row:
                    for at in sorted({0, len(row) // 2, len(row) - 1}):
                        sender, recipient, payload = row[at]
                        for other in (
                            (), (row[at], row[at]), ((sender, recipient, payload[:-1] + (6 - payload[-1] % 7,)),),
                            ((sender, recipient, payload[:-1] + (bool(payload[-1]),)),),
                            ((sender, "" if recipient else party, payload),), ((party, recipient, payload),),
                        ):
                            self.check(scheme, party, put(log, place, row[:at] + other + row[at + 1:]))

    def test_messages_that_have_no_effect(self):
        noise = (("a", "", ("hello",)), ("a", "", None), ("p", "", ["share", ("p",), 0, 1]), ("b", "", {"a": 1}))
        for scheme, party, log in self.logs():
            changed = log
            for place in message_rows(log):
                if place[3] == 2:
                    more = noise + (("a", party, ("complaint", ("p",), 0, 1)), (party, party, ("echo", ("p",), 0, 1)))
                    changed = put(changed, place, more + at_place(log, place))
            self.assertIsNone(first_deviation(scheme, party, changed))

    def test_a_share_that_was_not_received(self):
        network = network_of(THREE)
        network.store("p", "x", 5)
        network.read("q", "x")
        log = party_log(network, "a")
        # Then a has 0 in place of share 1, which it did not echo; and later it reports what it does not have.
        first = put(log, (0, 3, 0, 2), log[0][3][0][2][1:])
        self.assertEqual(first_deviation(THREE, "a", first), (0, 2))
        corrected = put(first, (0, 3, 1, 1), tuple(
            row[:2] + (row[2][:-1] + (0,),) if row[2][2] == 1 else row for row in first[0][3][1][1]
        ))
        # The others tell another number, so a had to complain.
        self.assertEqual(first_deviation(THREE, "a", corrected), (0, 3))
        complained = put(corrected, (0, 3, 2, 1), (("a", "", ("complaint", ("p",), 1, 2)),))
        self.assertEqual(first_deviation(THREE, "a", complained), (1, 1))
        # As its own broadcast does not count until it is received, no claim was required of it.
        counted = put(complained, (0, 3, 2, 2), (("a", "", ("complaint", ("p",), 1, 2)),))
        self.assertEqual(first_deviation(THREE, "a", put(counted, (1, 2), (("a", "b", "c", "p"), ()))), (0, 4))

    def test_random_changes(self):
        kinds = {"InvalidLog": 0, "NoneType": 0, "tuple": 0}
        for seed in range(32):
            chance = random.Random(seed)
            scheme, faulty, randomness, operations = random_case(chance, 5, chance.random() < 0.4)
            network = run_scenario((scheme, faulty, randomness, operations))
            for party in scheme[1] + scheme[2]:
                with self.subTest(seed=seed, party=party):
                    log = party_log(network, party)
                    for _ in range(8):
                        changed = log
                        for _ in range(chance.choice((1, 1, 2, 3))):
                            if has_form(changed):
                                changed = changed_log(chance, scheme, changed)
                        found = self.check(scheme, party, changed)
                        kinds[found if isinstance(found, str) else type(found).__name__] += 1
        self.assertGreater(min(kinds.values()), 60)


class InvalidLogTest(LogCheckTest):
    def refuse(self, scheme, party, log):
        before = copy.deepcopy(log)
        with self.assertRaises(InvalidLog):
            first_deviation(scheme, party, log)
        self.assertEqual(judge(scheme, party, log), "InvalidLog")
        self.assertEqual(repr(log), repr(before))

    def test_no_operation(self):
        for scheme in (TWO, THREE, FOUR):
            for party in scheme[1] + scheme[2]:
                self.assertIsNone(first_deviation(scheme, party, ()))

    def test_every_value(self):
        for thing in any_values():
            if thing != () or not isinstance(thing, tuple):
                for party in ("a", "p"):
                    self.refuse(TWO, party, thing)
                    self.refuse(TWO, party, (thing,))

    def test_every_value_at_every_place(self):
        network = network_of(TWO)
        network.store("p", "x", 3)
        network.multiply("p", "x", "x", "x")
        network.read("p", "x")
        for party in ("a", "p"):
            log = party_log(network, party)
            for place in places(log):
                for thing in any_values():
                    self.check(TWO, party, put(log, place, thing))

    def test_parts_missing_and_added(self):
        network = everything(THREE)
        for party in ("a", "p"):
            log = party_log(network, party)
            for place in places(log, 5):
                part = at_place(log, place)
                if isinstance(part, tuple):
                    for other in (part[:-1], part[1:], part + ((),), part + (None,), list(part), part[::-1], part * 2):
                        self.check(THREE, party, put(log, place, other))

    def entry(self, party="p"):
        network = network_of(THREE)
        network.store("p", "x", 5)
        network.read("q", "x")
        return party_log(network, party)

    def test_words_and_arguments(self):
        store, read = self.entry()
        for word, arguments in (
            ("keep", ("p", "y", 1)), ("", ("p", "y", 1)), ("read", ("p", "x", 1)), ("store", ("p", "x")),
            ("store", ["p", "x", 5]), (["store"], ("p", "x", 5)), ("store", ("a", "x", None)), ("store", ("p", "X", 5)),
            ("store", ("p", "seventh", 5)), ("store", ("p", "x", 7)), ("store", ("p", "x", -1)),
            ("store", ("p", "x", True)), ("store", ("p", "x", None)), ("store", ("q", "x", 5)), ("store", ("q", "x", 0)),
            ("store", (None, "x", None)), ("store", ("q", None, None)), (None, ("p", "x", 5)),
        ):
            self.refuse(THREE, "p", ((word, arguments) + store[2:],))
        for word, arguments in (
            ("add", ("p", "y", "x", "y")), ("add", ("p", "y", "y", "x")), ("add", ("p", "", "x", "x")),
            ("add", ("p", "y", "x", None)), ("add", (None, "y", "x", "x")), ("scale", ("p", "y", 7, "x")),
            ("scale", ("p", "y", None, "x")), ("scale", ("q", "y", None, "x")), ("scale", ("p", "y", False, "x")),
            ("scale", ("p", "y", 1, "y")), ("add", ("p", None, "x", "x")),
        ):
            self.refuse(THREE, "p", (store, (word, arguments, ((), ()), ())))
        self.assertIsNone(first_deviation(THREE, "p", (store, ("scale", ("q", "y", 6, "x"), ((), ()), ()))))
        for arguments in (("q", "y"), ("a", "x"), ("q", None), (None, "x"), (["q"], "x"), ("q", ["x"])):
            self.refuse(THREE, "p", (store, ("read", arguments) + read[2:]))
            self.refuse(THREE, "p", (store, ("publish", arguments) + read[2:]))
        # The key does not exist yet.
        self.refuse(THREE, "p", (read, store))
        self.refuse(THREE, "p", (read,))

    def test_the_value_of_a_store_by_another_party(self):
        for party in ("a", "q"):
            store, read = self.entry(party)
            self.assertEqual(store[1], ("p", "x", None))
            for value in (5, 0, False, "", ()):
                self.refuse(THREE, party, (("store", ("p", "x", value)) + store[2:], read))

    def test_products_that_the_scheme_does_not_support(self):
        network = network_of(NO_PRODUCTS)
        network.store("p", "x", 5)
        empty = ((), (), ())
        for party in ("a", "p", "q"):
            product = ("multiply", ("p", "y", "x", "x"), ((), ()), (empty,) * 7)
            self.refuse(NO_PRODUCTS, party, party_log(network, party) + (product,))

    def test_states(self):
        store, read = self.entry()
        for state in (
            (("a",), ()), ((), (("a", "b"),)), ((),), ((), (), ()), [(), ()], ((), []), None, (), ([], ()),
        ):
            self.refuse(THREE, "p", (store[:2] + (state,) + store[3:], read))
            self.refuse(THREE, "p", (store, read[:2] + (state,) + read[3:]))
        forged = ((3, "d", (("", ("complaint", ("p",), 0, 1)),)),)
        network = everything(FOUR, ("d",), store=forged, read=((1, "d", ()),), publish=((1, "d", ()),))
        for party in "abcdpq":
            log = party_log(network, party)
            self.assertNotEqual(log[1][2], ((), ()))
            for at in range(1, len(log)):
                for state in (((), ()), (("d",), log[at][2][1]), ((), (("a", "d"),)), ((), (("d", "b"),))):
                    self.refuse(FOUR, party, log[:at] + (log[at][:2] + (state,) + log[at][3:],) + log[at + 1:])

    def test_rounds_and_random_numbers(self):
        store, read = self.entry()
        empty = ((), (), ())
        for rounds in (store[3][:-1], store[3] + (empty,), (), list(store[3]), None, store[3][:1] * 5):
            self.refuse(THREE, "p", (store[:3] + (rounds,), read))
        for rounds in ((), (empty, empty), ((),), (empty[:2],), (list(empty),), (empty + ((),),)):
            self.refuse(THREE, "p", (store, read[:3] + (rounds,)))
        self.refuse(THREE, "p", (store, ("add", ("p", "y", "x", "x"), ((), ()), (empty,))))
        for numbers in ((), (1,), (1, 2, 3), (1, -2), (1, True), (1, "2"), [1, 2], (1, None), None, 2, "12"):
            self.refuse(THREE, "p", (put(store, (3, 0, 0), numbers), read))
        for turn in range(1, 5):
            self.refuse(THREE, "p", (put(store, (3, turn, 0), (1,)), read))
        self.refuse(THREE, "p", (store, put(read, (3, 0, 0), (1,))))
        self.refuse(THREE, "q", (put(self.entry("q")[0], (3, 0, 0), (1, 2)),))
        # Other numbers of the right kinds lead to other shares.
        self.assertEqual(first_deviation(THREE, "p", (put(store, (3, 0, 0), (10 ** 39, 2)), read)), (0, 1))

    def test_the_random_numbers_of_products(self):
        network = everything(THREE)
        for party in ("a", "p"):
            log = party_log(network, party)
            numbers = log[4][3][0][0]
            self.assertEqual(len(numbers), 8 if party == "a" else 0)
            for other in (numbers[:-1] if numbers else (1,), numbers + (1,), numbers[:-1] + (-1,), list(numbers)):
                self.refuse(THREE, party, put(log, (4, 3, 0, 0), other))
            self.refuse(THREE, party, put(log, (4, 3, 1, 0), (1,)))

    def test_senders_and_recipients(self):
        log = self.entry("a")
        for place in message_rows(log):
            row = at_place(log, place)
            wrong = [("a", "x", 1), ("a", None, 1), ("a", "b"), ("a", "b", 1, 2), ["a", "b", 1], None, (), ("x", "", 1)]
            if place[3] == 1:
                wrong += [("b", "a", 1), ("b", "", 1), ("", "a", 1), ("p", "a", 1), (None, "a", 1), (["a"], "b", 1)]
            else:
                wrong += [("b", "c", 1), ("a", "b", 1), ("", "a", 1), ("x", "a", 1), (None, "a", 1), ("b", ["a"], 1)]
            for message in wrong:
                self.refuse(THREE, "a", put(log, place, row + (message,)))
            self.refuse(THREE, "a", put(log, place, list(row)))

    def test_an_invalid_part_behind_a_deviation(self):
        log = put(self.entry(), (0, 3, 0, 1), ())
        self.assertEqual(first_deviation(THREE, "p", log), (0, 1))
        self.refuse(THREE, "p", log + (None,))
        self.refuse(THREE, "p", log + (("read", ("q", "u"), ((), ()), log[1][3]),))
        self.refuse(THREE, "p", put(log, (1, 2), (("p",), ())))

    def test_a_correct_value_that_does_not_exist(self):
        network = everything(FOUR)
        for party in ("a", "p", "q"):
            log = party_log(network, party)
            # Two of three holders tell nothing when a value is published.
            for silent in (("b", "c"), ("c", "d"), ("b", "c", "d")):
                heard = tuple(row for row in log[6][3][0][2] if row[0] not in silent)
                self.refuse(FOUR, party, put(log, (6, 3, 0, 2), heard))
            # The same for the differences of a product.
            heard = tuple(row for row in log[4][3][5][2] if row[0] not in ("b", "c"))
            self.refuse(FOUR, party, put(log, (4, 3, 5, 2), heard))
        # What a read lacks is missed by its client alone.
        log = party_log(network, "p")
        self.refuse(FOUR, "p", put(log, (5, 3, 0, 2), ()))
        one = tuple(row for row in log[5][3][0][2] if row[0] not in ("b", "c"))
        self.refuse(FOUR, "p", put(log, (5, 3, 0, 2), one))
        self.assertIsNone(first_deviation(FOUR, "p", put(log, (5, 3, 0, 2), tuple(
            row for row in log[5][3][0][2] if row[0] != "b"
        ))))
        for party in ("a", "q"):
            self.assertIsNone(first_deviation(FOUR, party, put(party_log(network, party), (5, 3, 0, 2), ())))

    def test_a_remaining_dealing_that_does_not_exist(self):
        # Only c and d hold both shares, and a dealer fails if it leaves a complaint without an answer.
        scheme = (7, ("a", "b", "c", "d"), ("p",), (("a",), ("b",)), ((),))
        network = network_of(scheme)
        network.store("p", "x", 3)
        network.multiply("p", "y", "x", "x")
        log = party_log(network, "p")
        self.assertIsNone(first_deviation(scheme, "p", log))
        complaints = (
            ("d", "", ("complaint", ("c", 0, 1), 0, 1)), ("c", "", ("complaint", ("d", 0, 1), 0, 1)),
        )
        self.assertIsNone(self.check(scheme, "p", put(log, (1, 3, 2, 2), complaints[:1])))
        self.assertIsNone(self.check(scheme, "p", put(log, (1, 3, 2, 2), complaints[1:])))
        self.refuse(scheme, "p", put(log, (1, 3, 2, 2), complaints))

    def test_nobody_is_left_to_multiply(self):
        # Every server told that it is in dispute with every other one, so all of them are exposed.
        network = network_of(FOUR)
        network.store("p", "x", 3)
        network.store("p", "y", 3)
        log = party_log(network, "q")
        pairs = [(first, k) for first in "abcd" for k in range(4) if FOUR[3][k] != (first,)]
        complaints, claims = [], []
        for first, k in pairs:
            for second in "abcd":
                if second != first and FOUR[3][k] != (second,):
                    complaints.append((first, "", ("complaint", ("p",), k, "abcd".index(second))))
            claims.append((first, "", ("claim", ("p",), k, 1)))
        shares = tuple(("p", "", ("share", ("p",), k, 1)) for k in range(4))
        log = put(log, (0, 3, 2, 2), tuple(complaints))
        log = put(log, (0, 3, 3, 2), tuple(claims))
        log = put(log, (0, 3, 4, 2), shares)
        everybody = (("a", "b", "c", "d"), tuple((a, b) for a in "abcd" for b in "abcd" if a < b))
        log = put(log, (1, 2), everybody)
        self.assertIsNone(self.check(FOUR, "q", log))
        empty = ((), (), ())
        self.refuse(FOUR, "q", log + (("multiply", ("p", "z", "x", "y"), everybody, (empty,) * 7),))
        self.refuse(FOUR, "q", log + (("publish", ("p", "x"), everybody, (empty,)),))
        self.refuse(FOUR, "q", log + (("read", ("q", "x"), everybody, (empty,)),))
        read = ("read", ("p", "x"), everybody, (empty,))
        self.assertIsNone(self.check(FOUR, "q", log + (read,)))


if __name__ == "__main__":
    unittest.main()
