"""Point 23: the console."""

import itertools
import random
import unittest

from lotkept.console import Console
from lotkept.errors import Conflict, InvalidFaulty, InvalidRandomness, InvalidScheme, InvalidText
from lotkept.networks import Network
from tests.any_values import any_values
from tests.forgeries import random_case
from tests.helpers import FOUR, THREE, TWO, numbers_for, outcome, state_of

NO_STORAGE = (7, ("a", "b"), ("p",), (("a",), ("b",)), (("a",), ("b",)))
NO_PRODUCTS = (7, ("a", "b"), ("p", "q"), (("a",), ("b",)), ((),))
COMPLAINT = "send 3 d - complaint p 0 1"


def console_of(scheme=FOUR, faulty=("d",)):
    return Console(scheme, faulty, numbers_for(scheme))


def results(console, *lines):
    return [console.run(line) for line in lines]


class MakingTest(unittest.TestCase):
    def test_by_position_and_by_name(self):
        for console in (Console(THREE, (), ()), Console(randomness=(), scheme=THREE, faulty=())):
            network = console.network()
            self.assertIsInstance(network, Network)
            self.assertIs(console.network(), network)
            self.assertEqual((len(network), network.operation_count()), (0, 0))

    def test_the_network_is_that_of_the_console(self):
        console = console_of()
        console.network().store("p", "x", 3)
        self.assertEqual(console.run("read q x"), "3")
        console.run("scale p y 2 x")
        self.assertEqual(console.network().expected_value("y"), 6)
        self.assertEqual(console.network().operation_count(), 3)

    def test_two_consoles_share_nothing(self):
        one, other = console_of(), console_of()
        results(one, "store p x 3", "silence 1 d")
        self.assertEqual(results(other, "keys", "rounds"), ["none", "0"])
        other.run("store p x 3")
        self.assertEqual((one.run("publish p x"), one.run("exposed")), ("3", "d"))
        self.assertEqual((other.run("publish p x"), other.run("exposed")), ("3", "none"))

    def test_the_errors_of_a_network(self):
        for arguments in itertools.product(
            (FOUR, NO_STORAGE, (4,) + FOUR[1:], None), (("d",), ("a", "b"), None), ((("p", (1,)),), (("p", (-1,)),), None),
        ):
            found, expected = outcome(lambda: Console(*arguments)), outcome(lambda: Network(*arguments))
            self.assertEqual(found[0], expected[0])
            if expected[0] != "returned":
                self.assertEqual(found, expected)
        for error, arguments in (
            (InvalidScheme, (None, None, None)), (Conflict, (NO_STORAGE, None, None)), (InvalidFaulty, (FOUR, None, None)),
            (InvalidRandomness, (FOUR, (), None)),
        ):
            with self.assertRaises(error):
                Console(*arguments)

    def test_every_value_as_an_argument(self):
        for thing in any_values():
            for at in range(3):
                arguments = [FOUR, (), ()]
                arguments[at] = thing
                found, expected = outcome(lambda: Console(*arguments)), outcome(lambda: Network(*arguments))
                self.assertEqual(found[0], expected[0])


class CommandTest(unittest.TestCase):
    def test_each_operation(self):
        console = console_of()
        self.assertEqual(results(
            console, "store p x 5", "store q abcdef 0", "add q y x x", "scale p z 4 y", "multiply p w z x", "read q w",
            "read p abcdef", "publish p z", "rounds", "expect w", "expect abcdef",
        ), ["ok", "ok", "ok", "ok", "ok", "4", "0", "5", "20", "4", "0"])

    def test_by_name(self):
        console = console_of()
        self.assertEqual((console.run(line="store p x 5"), console.run(line="read p x")), ("ok", "5"))

    def test_queries(self):
        console = console_of()
        self.assertEqual(results(console, "exposed", "disputes", "keys", "rounds"), ["none", "none", "none", "0"])
        self.assertEqual(results(console, COMPLAINT, "store p x 4"), ["ok", "ok"])
        self.assertEqual(results(console, "exposed", "disputes", "keys", "rounds"), ["none", "b d", "x", "5"])
        self.assertEqual(results(console, "send 3 d - complaint p 1 2", "store p ab 4"), ["ok", "ok"])
        # Only d explains disputes with both of them.
        self.assertEqual(results(console, "exposed", "disputes", "keys"), ["d", "b d, c d", "ab x"])
        self.assertEqual(results(console, "expect x", "expect ab", "rounds"), ["4", "4", "10"])

    def test_several_exposed_parties(self):
        console = console_of(FOUR, ("d", "p", "q"))
        results(console, COMPLAINT, "silence 5 p", "store p x 1")
        self.assertEqual(console.run("exposed"), "p")
        results(console, "send 3 d - complaint q 0 2", "silence 5 q", "store q x 1")
        self.assertEqual(results(console, "exposed", "disputes"), ["d p q", "b d, c d"])

    def test_reads(self):
        console = console_of(FOUR, ("d", "q"))
        self.assertEqual(results(console, "store p x 4", "read p x", "read q x"), ["ok", "4", "-"])
        self.assertEqual(results(console, "send 1 d p report 0 6", "read p x"), ["ok", "4 but d"])
        self.assertEqual(results(console, "send 1 d q report 0 6", "read q x"), ["ok", "-"])
        five = (7, ("a", "b", "c", "d", "e"), ("p",), (("a",), ("d", "e")), (("d", "e"),))
        console = console_of(five, ("d", "e"))
        self.assertEqual(results(
            console, "store p x 4", "send 1 e p report 0 3", "send 1 d p report 0 6", "read p x", "publish p x", "exposed",
        ), ["ok", "ok", "ok", "4 but d e", "4", "none"])

    def check_refused(self, console, line, scheme=FOUR):
        before = state_of(console.network(), scheme)
        with self.assertRaises(InvalidText):
            console.run(line)
        self.assertEqual(state_of(console.network(), scheme), before)

    def test_every_value_as_a_line(self):
        console = console_of()
        for thing in any_values():
            self.check_refused(console, thing)
        for thing in (["keys"], ("keys",), ("read", "p", "x"), {"keys": 1}, b"keys", 5, None):
            self.check_refused(console, thing)

    LINES = (
        "store p x 5", "add q y x x", "scale p z 4 x", "multiply p w x x", "read q x", "publish p x", "exposed",
        "disputes", "keys", "expect x", "rounds", "send 1 d q report 0 6", "send 1 d - share p/0/1 p", "silence 1 d",
    )

    def test_words_and_blanks(self):
        console = console_of()
        results(console, "store p x 5")
        for line in self.LINES:
            words = line.split(" ")
            # Words too many or too few; a payload may have any number of parts.
            if words[0] != "send":
                self.check_refused(console, line + " x")
                self.check_refused(console, line + " 1")
            for at in range(len(words)):
                if words[0] != "send" or at < 4:
                    if len(words[:at] + words[at + 1:]) < 5:
                        self.check_refused(console, " ".join(words[:at] + words[at + 1:]))
                for other in ("", "A", "a1", "-1", "+1", "01", "1000000", "x.", "/", "p/1", "p/1/2/3", "p/01/2", "p/1/x", "\n"):
                    if not (words[:1] == ["send"] and at > 4 and other == "x"):
                        self.check_refused(console, " ".join(words[:at] + [other] + words[at + 1:]))
            for at in range(len(line) + 1):
                for blank in ("\n", "\t", "\r"):
                    self.check_refused(console, line[:at] + blank + line[at:])
                if line[at:at + 1] == " " or at in (0, len(line)):
                    self.check_refused(console, line[:at] + " " + line[at:])
                    self.check_refused(console, line[:at] + "  " + line[at:])
            self.check_refused(console, line.upper())
            self.check_refused(console, line.capitalize())
            self.check_refused(console, line.replace(" ", "\n") if " " in line else line + "\n")
        for line in ("", " ", "help", "len", "stores p x 1", "expected_value x", "network", "remaining p", "view a", "run"):
            self.check_refused(console, line)

    def test_names_in_form(self):
        console = console_of()
        results(console, "store p abcdef 5")
        self.assertEqual(console.run("expect abcdef"), "5")
        for name in ("abcdefg", "Ab", "a1", "", "-", "a-b", "\u00e4"):
            for line in (
                f"store {name} x 1", f"store p {name} 1", f"add p y {name} abcdef", f"add p y abcdef {name}",
                f"scale p y 1 {name}", f"read {name} x", f"read p {name}", f"expect {name}", f"send 1 {name} q report",
                f"silence 1 {name}", f"multiply p {name} abcdef abcdef",
            ):
                self.check_refused(console, line)
            if name != "-":
                self.check_refused(console, f"send 1 d {name} report")

    def test_numbers_in_form(self):
        console = console_of((997,) + FOUR[1:], ("d",))
        self.assertEqual(results(console, "store p x 0", "store p y 996", "scale p y 10 y"), ["ok", "ok", "ok"])
        for number in ("00", "01", "+1", "-1", "1000000", "0000001", "", "x", "1x", "1.0", "\u0661", "\u00b2", "1_0", "one", "-0"):
            for line in (
                f"store p z {number}", f"send {number} d q report 1", f"silence {number} d", f"send 1 d q report p/{number}/1",
                f"send 1 d q report p/1/{number}",
            ):
                self.check_refused(console, line, (997,) + FOUR[1:])
            if number not in ("x", "one"):
                self.check_refused(console, f"send 1 d q report {number}", (997,) + FOUR[1:])
        self.assertEqual(outcome(lambda: console.run("store p z 997")), ("InvalidValue", {"value": 997}))
        self.assertEqual(outcome(lambda: console.run("scale p z 999999 x")), ("InvalidValue", {"value": 999999}))


class ErrorTest(unittest.TestCase):
    def test_the_errors_of_operations(self):
        console = Console(FOUR, ("d",), (("p", (1, 2, 3)),))
        console.run("store p x 4")
        for line, error in (
            ("store a x 1", ("UnknownClient", {"name": "a"})), ("read zz x", ("UnknownClient", {"name": "zz"})),
            ("read p y", ("UnknownKey", {"name": "y"})), ("publish q none", ("UnknownKey", {"name": "none"})),
            ("add p y x u", ("UnknownKey", {"name": "u"})), ("add p y v u", ("UnknownKey", {"name": "v"})),
            ("scale p y 8 u", ("UnknownKey", {"name": "u"})), ("scale p y 8 x", ("InvalidValue", {"value": 8})),
            ("multiply p y x u", ("UnknownKey", {"name": "u"})), ("expect y", ("UnknownKey", {"name": "y"})),
            ("store p y 7", ("InvalidValue", {"value": 7})), ("store p y 1", ("RandomnessExhausted", {"party": "p"})),
            ("multiply p y x x", ("RandomnessExhausted", {"party": "a"})),
        ):
            before = state_of(console.network(), FOUR)
            self.assertEqual(outcome(lambda: console.run(line)), error, line)
            self.assertEqual(state_of(console.network(), FOUR), before)
        console = Console(NO_PRODUCTS, (), (("p", (1,)),))
        console.run("store p x 4")
        self.assertEqual(
            outcome(lambda: console.run("multiply p y x x")), ("Conflict", {"sets": (("a",), ("b",), ())}),
        )

    def check_overrides(self, lines, expected):
        """The overrides that send and silence lead to, as an error tells them."""
        console = console_of(FOUR, ())
        self.assertEqual(results(console, "store p x 4", *lines), ["ok"] * (len(lines) + 1))
        found = outcome(lambda: console.run("read p x"))
        self.assertEqual(found[0], "InvalidOverrides")
        self.assertEqual(repr(found[1]["value"]), repr(expected))
        # They are gone after the error.
        self.assertEqual(console.run("read p x"), "4")

    def test_the_overrides(self):
        self.check_overrides(["silence 1 d"], ((1, "d", ()),))
        self.check_overrides(["send 1 d - hello"], ((1, "d", (("", ("hello",)),)),))
        self.check_overrides(["send 1 d - azbycz az"], ((1, "d", (("", ("azbycz", ("az",))),)),))
        self.check_overrides(
            ["send 1 d q share p 0 999999 abc/12/0 abcdef 7"],
            ((1, "d", (("q", ("share", ("p",), 0, 999999, ("abc", 12, 0), ("abcdef",), 7)),)),),
        )
        self.check_overrides(
            ["send 2 d q a", "silence 1 d", "send 1 e - b", "send 2 d a c", "send 1 d - abcdefghij", "send 2 d q a"],
            (
                (2, "d", (("q", ("a",)), ("a", ("c",)), ("q", ("a",)))), (1, "d", (("", ("abcdefghij",)),)),
                (1, "e", (("", ("b",)),)),
            ),
        )
        # Silence removes what was said before; the place of the entry stays.
        self.check_overrides(
            ["send 3 d q a", "send 2 d q b", "silence 3 d", "send 1 d q c", "silence 1 d", "send 3 d q d", "silence 2 d"],
            ((3, "d", (("q", ("d",)),)), (2, "d", ()), (1, "d", ())),
        )

    def test_only_the_form_is_checked(self):
        for line, entry in (
            ("send 0 d q a", (0, "d", (("q", ("a",)),))), ("silence 0 d", (0, "d", ())),
            ("send 1 zz q a", (1, "zz", (("q", ("a",)),))), ("silence 999999 zz", (999999, "zz", ())),
            ("send 1 d zz a", (1, "d", (("zz", ("a",)),))), ("silence 1 a", (1, "a", ())),
        ):
            console = console_of()
            self.assertEqual(results(console, "store p x 4", line), ["ok", "ok"])
            self.assertEqual(outcome(lambda: console.run("read p x")), ("InvalidOverrides", {"value": (entry,)}))
            self.assertEqual(console.run("read p x"), "4")
        console = console_of()
        for word in ("abcdefghijk", "Abc", "a1", "", "-", "7"):
            self.assertEqual(outcome(lambda: console.run(f"send 1 d q {word}"))[0], "InvalidText")

    def test_a_round_after_the_last_one_has_no_effect(self):
        console = console_of()
        self.assertEqual(results(console, "silence 9 d", "store p x 4", "exposed"), ["ok", "ok", "none"])

    def test_how_long_the_overrides_stay(self):
        def prepared():
            console = console_of()
            results(console, "store p x 4", "silence 1 d")
            return console

        # After an operation, whether it succeeds or not, they are gone.
        for line in ("read p x", "add p y x x", "scale p y 2 x", "store p y 1", "read p u", "store a x 1", "store p y 7"):
            console = prepared()
            outcome(lambda: console.run(line))
            console.run("publish p x")
            self.assertEqual(console.run("exposed"), "none", line)
        # They stay after queries, also those that fail, and after what is no command.
        for line in (
            "exposed", "disputes", "keys", "expect x", "expect u", "rounds", "send 2 d - a", "silence 3 d", "", None, "keys ",
            "read p  x", "store p x 01", "send 1 d q A", "silence 01 d", "send 1 d", "read p", 5, "expect X",
        ):
            console = prepared()
            outcome(lambda: console.run(line))
            console.run("publish p x")
            self.assertEqual(console.run("exposed"), "d", line)

    def test_overrides_of_an_operation_without_rounds(self):
        console = console_of()
        results(console, "store p x 4", "silence 1 p")
        found = outcome(lambda: console.run("add p y x x"))
        self.assertEqual(found, ("InvalidOverrides", {"value": ((1, "p", ()),)}))


def command_of(word, arguments):
    return " ".join([word, *map(str, arguments)])


def simple(payload):
    """Whether the console has words for a payload."""
    if not isinstance(payload, tuple) or not payload or type(payload[0]) is not str or not 1 <= len(payload[0]) <= 10:
        return False
    parts = [part for part in payload[1:]]
    for part in list(parts):
        if isinstance(part, tuple) and part and type(part[0]) is str and len(part) in (1, 3):
            parts.extend(part[1:])
            parts.remove(part)
    return all(type(part) is int and 0 <= part <= 999999 for part in parts)


def words_of(payload):
    return [payload[0]] + ["/".join(map(str, part)) if isinstance(part, tuple) else str(part) for part in payload[1:]]


class AgreementTest(unittest.TestCase):
    def test_random_scenarios(self):
        forged = 0
        for seed in range(80):
            chance = random.Random(seed)
            scheme, faulty, randomness, operations = random_case(chance, 7, chance.random() < 0.4)
            network, console = Network(scheme, faulty, randomness), Console(scheme, faulty, randomness)
            with self.subTest(seed=seed):
                for word, arguments, overrides in operations:
                    kept = tuple(
                        (turn, party, tuple(row for row in messages if simple(row[1]))) for turn, party, messages in overrides
                    )
                    for turn, party, messages in kept:
                        console.run(f"silence {turn} {party}")
                        for to, payload in messages:
                            forged += 1
                            console.run(" ".join(["send", str(turn), party, to or "-"] + words_of(payload)))
                    result = getattr(network, word)(*arguments, overrides=kept)
                    told = console.run(command_of(word, arguments))
                    self.check_result(word, result, told, arguments[0] in faulty)
                    self.check_queries(network, console)
                self.assertEqual(state_of(console.network(), scheme), state_of(network, scheme))
        self.assertGreater(forged, 500)

    def check_result(self, word, result, told, faulty):
        expected = "ok"
        if word == "publish":
            expected = f"{result}"
        if word == "read":
            expected = "-" if faulty else str(result[0]) + (" but " + " ".join(result[1]) if result[1] else "")
        self.assertEqual(told, expected)

    def check_queries(self, network, console):
        self.assertEqual(console.run("exposed"), " ".join(network.exposed()) if network.exposed() else "none")
        pairs = [first + " " + second for first, second in network.disputes()]
        self.assertEqual(console.run("disputes"), ", ".join(pairs) if pairs else "none")
        keys = network.stored_keys()
        self.assertEqual(console.run("keys"), " ".join(keys) if keys else "none")
        self.assertEqual(console.run("rounds"), str(network.round_count()))
        for key in keys:
            self.assertEqual(console.run("expect " + key), str(network.expected_value(key)))


class FewPartiesTest(unittest.TestCase):
    def test_the_smallest_scheme(self):
        console = Console(TWO, (), ())
        self.assertEqual(results(console, "store p x 5", "multiply p x x x", "publish p x"), ["ok", "ok", "4"])


if __name__ == "__main__":
    unittest.main()
