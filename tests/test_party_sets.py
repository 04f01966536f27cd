import itertools
import unittest

from lotkept.party_sets import is_name, is_party_set, is_subset, union

LETTERS = "abcdefghijklmnopqrstuvwxyz"


def subsets(names):
    """All party sets of some ascending names."""
    return [row for many in range(len(names) + 1) for row in itertools.combinations(names, many)]


class NameTest(unittest.TestCase):
    def test_example(self):
        self.assertEqual((is_name("ab"), is_name("Ab"), is_name("seventh")), (True, False, False))
        self.assertIs(is_name(thing="ab"), True)

    def test_one_to_six_letters(self):
        for many in range(12):
            self.assertIs(is_name("a" * many), 1 <= many <= 6, many)
            self.assertIs(is_name(LETTERS[:many]), 1 <= many <= 6, many)

    def test_every_sign_alone_and_in_each_place(self):
        for code in list(range(0x250)) + [0x0430, 0x1D41A, 0xFF41, 0x2170, 0x1E9E]:
            sign = chr(code)
            expected = sign in LETTERS
            self.assertIs(is_name(sign), expected, code)
            for at in range(6):
                self.assertIs(is_name("abcde"[:at] + sign + "abcde"[at:]), expected, (code, at))

    def test_blanks_and_newlines(self):
        for text in ("", " ", "\n", " a", "a ", "a\n", "\na", "a b", "a\tb", "a\r"):
            self.assertIs(is_name(text), False, text)

    def test_other_kinds(self):
        for thing in (None, True, False, 0, 1, 12, (), ("a",), ["a"], ["a", "b"], {}, {"a": 1}, ("a", "b")):
            self.assertIs(is_name(thing), False, thing)


class PartySetTest(unittest.TestCase):
    def test_example(self):
        answers = is_party_set(("a", "b")), is_party_set(("b", "a")), is_party_set(())
        self.assertEqual(answers, (True, False, True))
        self.assertIs(is_party_set(thing=("a", "b")), True)

    def test_order(self):
        for names in subsets(("a", "ab", "b", "ba")):
            for row in itertools.permutations(names):
                self.assertIs(is_party_set(row), list(row) == sorted(row), row)

    def test_a_name_twice(self):
        for row in (("a", "a"), ("a", "a", "b"), ("a", "b", "b"), ("a", "b", "a")):
            self.assertIs(is_party_set(row), False, row)

    def test_every_pair_is_compared(self):
        self.assertIs(is_party_set(("a", "c", "b", "d")), False)
        self.assertIs(is_party_set(("b", "c", "a")), False)
        self.assertIs(is_party_set(("b", "a", "c")), False)

    def test_an_entry_that_is_no_name(self):
        for entry in ("", "A", "abcdefg", "a b", "a1", "é", None, True, 1, (), ("a",), ["b"], {}):
            for row in ((entry,), ("a", entry), (entry, "z"), ("a", entry, "z")):
                self.assertIs(is_party_set(row), False, row)

    def test_only_a_tuple(self):
        for thing in ([], ["a"], ["a", "b"], {}, {"a": 1, "b": 2}, "", "a", "ab", None, True, 0):
            self.assertIs(is_party_set(thing), False, thing)

    def test_many_names(self):
        names = tuple(sorted(first + second for first in LETTERS for second in LETTERS))
        self.assertIs(is_party_set(names), True)
        self.assertIs(is_party_set(names + ("a",)), False)


class SubsetTest(unittest.TestCase):
    def test_example(self):
        answers = is_subset(("a",), ("a", "b")), is_subset(("a", "c"), ("a", "b"))
        self.assertEqual(answers, (True, False))
        self.assertIs(is_subset(first=("a",), second=("a", "b")), True)
        self.assertIs(is_subset(second=("a",), first=("a", "b")), False)

    def test_all_pairs_of_small_sets(self):
        for first in subsets(("a", "b", "c", "d")):
            for second in subsets(("a", "b", "c", "d")):
                expected = frozenset(first) <= frozenset(second)
                self.assertIs(is_subset(first, second), expected, (first, second))

    def test_empty_and_equal_sets(self):
        self.assertIs(is_subset((), ()), True)
        self.assertIs(is_subset((), ("a",)), True)
        self.assertIs(is_subset(("a",), ()), False)
        self.assertIs(is_subset(("a", "b"), ("a", "b")), True)
        same = ("a", "b")
        self.assertIs(is_subset(same, same), True)

    def test_prefixes_are_other_names(self):
        self.assertIs(is_subset(("a",), ("ab",)), False)
        self.assertIs(is_subset(("ab",), ("a",)), False)
        self.assertIs(is_subset(("ab",), ("a", "b")), False)
        self.assertIs(is_subset(("a", "b"), ("ab",)), False)
        self.assertIs(is_subset(("ab",), ("a", "ab", "abc")), True)


class UnionTest(unittest.TestCase):
    def test_example(self):
        self.assertEqual(union((("b",), ("a", "b"), ())), ("a", "b"))
        self.assertEqual(union(sets=(("b",), ("a", "b"), ())), ("a", "b"))

    def test_no_sets_and_empty_sets(self):
        for sets in ((), ((),), ((), (), ())):
            self.assertEqual(union(sets), ())
            self.assertIs(type(union(sets)), tuple)

    def test_one_set_and_the_same_set_twice(self):
        for names in subsets(("a", "ab", "b", "ba")):
            self.assertEqual(union((names,)), names)
            self.assertEqual(union((names, names)), names)

    def test_all_triples_of_small_sets(self):
        for sets in itertools.product(subsets(("a", "b", "c")), repeat=3):
            answer = union(sets)
            self.assertIs(type(answer), tuple)
            self.assertEqual(answer, tuple(name for name in "abc" if any(name in names for names in sets)))

    def test_prefixes_are_other_names_and_in_order(self):
        self.assertEqual(union((("b",), ("abc",), ("ab", "ba"), ("a",))), ("a", "ab", "abc", "b", "ba"))

    def test_many_names_come_in_order(self):
        names = sorted(first + second for first in LETTERS for second in LETTERS)
        self.assertEqual(union(tuple((name,) for name in reversed(names))), tuple(names))


if __name__ == "__main__":
    unittest.main()
