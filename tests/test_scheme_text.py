"""Point 22: schemes as texts."""

import copy
import random
import unittest

from lotkept.errors import InvalidText
from lotkept.scheme_text import format_scheme, parse_scheme
from lotkept.schemes import is_scheme
from tests.any_values import any_values
from tests.forgeries import random_scheme
from tests.helpers import FIVE, FOUR, ONE_SHARE, THREE, TWO

NO_STORAGE = (7, ("a", "b"), ("p",), (("a",), ("b",)), (("a",), ("b",)))
UNEVEN = (997, ("a", "ab", "c", "d", "servab"), ("abcdef", "p"), (("a", "ab"), ("c",)), ((),))
SCHEMES = (TWO, THREE, FOUR, FIVE, ONE_SHARE, NO_STORAGE, UNEVEN, (2, ("a", "b"), ("prime",), (("a", "b"),), (("a", "b"),)))


class SchemeTextTest(unittest.TestCase):
    def check_refused(self, text):
        before = copy.deepcopy(text)
        with self.assertRaises(InvalidText):
            parse_scheme(text)
        with self.assertRaises(InvalidText):
            parse_scheme(text=text)
        self.assertEqual(repr(text), repr(before))

    def check_changed(self, text):
        """A text that differs from that of a scheme is refused, unless it is the very text of another one."""
        try:
            scheme = parse_scheme(text)
        except InvalidText:
            return False
        self.assertTrue(is_scheme(scheme))
        self.assertEqual(format_scheme(scheme), text)
        return True

    def test_texts(self):
        self.assertEqual(
            format_scheme(THREE), "prime 7\nservers a b c\nclients p q\nobserve a\nobserve b\nobserve c\nfault",
        )
        self.assertEqual(
            format_scheme(UNEVEN),
            "prime 997\nservers a ab c d servab\nclients abcdef p\nobserve a ab\nobserve c\nfault",
        )
        self.assertEqual(
            format_scheme(NO_STORAGE), "prime 7\nservers a b\nclients p\nobserve a\nobserve b\nfault a\nfault b",
        )

    def test_each_text_back_to_its_scheme(self):
        chance = random.Random(5)
        for scheme in SCHEMES + tuple(random_scheme(chance, False) for _ in range(100)):
            text = format_scheme(scheme)
            self.assertEqual(format_scheme(scheme=scheme), text)
            self.assertEqual(repr(parse_scheme(text)), repr(scheme))
            self.assertEqual(repr(parse_scheme(text=text)), repr(scheme))

    def test_every_value(self):
        for thing in any_values():
            self.check_refused(thing)
        for thing in (format_scheme(TWO).split("\n"), (format_scheme(TWO),), TWO, {format_scheme(TWO): 1}):
            self.check_refused(thing)

    def test_one_character_changed_added_removed_or_exchanged(self):
        accepted = 0
        for scheme in (TWO, THREE, NO_STORAGE, UNEVEN):
            text = format_scheme(scheme)
            for at in range(len(text) + 1):
                self.check_changed(text[:at] + text[at + 1:])
                self.check_changed(text[:at] + text[at + 1:at + 2] + text[at:at + 1] + text[at + 2:])
                for sign in " \n\t\rab0179-+_~,P\u00b2":
                    accepted += self.check_changed(text[:at] + sign + text[at:])
                    accepted += self.check_changed(text[:at] + sign + text[at + 1:]) if at < len(text) else 0
                for blank in (" ", "\n", "  ", "\n\n", "\t", " \n", "\n "):
                    self.check_changed(text[:at] + blank + text[at:])
        # Some of them are other names, other primes or names in two.
        self.assertGreater(accepted, 20)

    def test_lines_and_words(self):
        lines = format_scheme(FOUR).split("\n")
        for at, line in enumerate(lines):
            self.check_refused("\n".join(lines[:at] + [line, line] + lines[at + 1:]))
            for other in ("", " ", line + " ", " " + line, line.upper(), line.replace(" ", "  ", 1) + "x x", "more", "fault x"):
                self.check_refused("\n".join(lines[:at] + [other] + lines[at + 1:]))
                self.check_refused("\n".join(lines[:at] + [other] + lines[at:]))
            for to in range(len(lines)):
                if to != at:
                    exchanged = list(lines)
                    exchanged[at], exchanged[to] = lines[to], line
                    self.check_refused("\n".join(exchanged))
            words = line.split(" ")
            for place in range(len(words)):
                self.check_refused("\n".join(lines[:at] + [" ".join(words[:place] + ["A"] + words[place + 1:])] + lines[at + 1:]))
                self.check_refused("\n".join(lines[:at] + [" ".join(words[:place] + words[place:place + 1] * 2
                                                                    + words[place + 1:])] + lines[at + 1:]))
        for at in range(3):
            self.check_refused("\n".join(lines[:at] + lines[at + 1:]))
            self.check_refused("\n".join(lines[:at]))
        # Without one of its sets it is another scheme, but one with no set at all is none.
        self.assertEqual(parse_scheme("\n".join(lines[:-1])), FOUR[:4] + (FOUR[4][:3],))
        self.check_refused("\n".join(lines[:3] + lines[7:]))
        self.check_refused("\n".join(lines[:7]))

    def test_primes(self):
        rest = format_scheme(TWO)[len("prime 7"):]
        for prime in ("2", "7", "997"):
            self.assertEqual(parse_scheme("prime " + prime + rest)[0], int(prime))
        for other in (
            "07", "+7", "-7", "7.0", "4", "1", "0", "991 7", "1009", "1000003", "", " 7", "7 ", "seven", "0x7", "1_1",
            "\u0667", "\u00b2", "00", "9" * 50, "7e0",
        ):
            self.check_refused("prime " + other + rest)
        self.check_refused("prime" + rest)

    def test_what_is_not_a_scheme(self):
        for text in (
            "prime 7\nservers a\nclients p\nobserve\nfault", "prime 7\nservers b a\nclients p\nobserve\nfault",
            "prime 7\nservers a b\nclients\nobserve\nfault", "prime 7\nservers a b\nclients b\nobserve\nfault",
            "prime 7\nservers a b\nclients p\nobserve\nfault a", "prime 7\nservers a b\nclients p\nobserve p\nfault",
            "prime 7\nservers a b\nclients p\nobserve b\nobserve a\nfault", "prime 7\nservers a b\nclients p\nfault\nobserve",
            "prime 7\nservers a b\nclients p\nobserve\nobserve a\nfault", "prime 7\nclients p\nservers a b\nobserve\nfault",
            "prime 7\nservers a b\nclients p\nobserve\nfault\n", "\nprime 7\nservers a b\nclients p\nobserve\nfault",
            "prime 7\r\nservers a b\r\nclients p\r\nobserve\r\nfault", "prime 7\nservers a b\nclients p\nobserve \nfault",
        ):
            self.check_refused(text)


if __name__ == "__main__":
    unittest.main()
