"""The rules for every function that accepts any value."""

import copy
import unittest

from lotkept.party_sets import is_name, is_party_set
from lotkept.schemes import is_scheme
from tests.any_values import any_values

QUESTIONS = (is_name, is_party_set, is_scheme)

SCHEME = (7, ("a", "b"), ("p",), ((),), ((),))


def placed_in_scheme(thing):
    """The value in place of each part of a scheme, and in place of an entry of each part."""
    found = [SCHEME + (thing,), (thing,) + SCHEME, [*SCHEME, thing]]
    for at in range(5):
        found.append(SCHEME[:at] + (thing,) + SCHEME[at + 1:])
        found.append(SCHEME[:at] + ((thing,),) + SCHEME[at + 1:])
        found.append(SCHEME[:at] + (("a", thing),) + SCHEME[at + 1:])
        found.append(SCHEME[:at] + (((thing,),),) + SCHEME[at + 1:])
    return found


class AnyValueTest(unittest.TestCase):
    def check(self, question, thing):
        before = copy.deepcopy(thing)
        answer = question(thing)
        self.assertIs(type(answer), bool, (question, thing))
        self.assertIs(question(thing=thing), answer)
        # The text of a value tells True from 1, which == does not.
        self.assertEqual(repr(thing), repr(before))

    def test_every_value_gets_true_or_false_and_stays_as_it_is(self):
        for question in QUESTIONS:
            for thing in any_values():
                self.check(question, thing)

    def test_every_value_within_a_scheme(self):
        for thing in any_values():
            for whole in placed_in_scheme(thing):
                self.check(is_scheme, whole)

    def test_every_value_within_a_party_set(self):
        for thing in any_values():
            for whole in ((thing,), ("a", thing), (thing, "z"), [thing], {"a": thing}):
                self.check(is_party_set, whole)

    def test_only_names_are_names(self):
        names = [thing for thing in any_values() if is_name(thing)]
        self.assertEqual(names, ["a", "abcdef"])

    def test_only_party_sets_are_party_sets(self):
        sets = [thing for thing in any_values() if is_party_set(thing)]
        self.assertEqual(sets, [(), ("a",), ("a", "b")])

    def test_none_of_them_is_a_scheme(self):
        self.assertEqual([thing for thing in any_values() if is_scheme(thing)], [])


if __name__ == "__main__":
    unittest.main()
