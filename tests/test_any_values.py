"""The rules for every function that accepts any value."""

import copy
import unittest

from lotkept.any_values import copied, exact_text
from lotkept.claims import claim_holds
from lotkept.party_sets import is_name, is_party_set
from lotkept.scenarios import is_scenario
from lotkept.schemes import is_scheme
from tests.any_values import any_values
from tests.oracle import same

QUESTIONS = (is_name, is_party_set, is_scheme, is_scenario, claim_holds)

SCHEME = (7, ("a", "b"), ("p",), ((),), ((),))


def placed_in_scheme(thing):
    """The value in place of each part of a scheme, and in place of an entry of each part."""
    found = [SCHEME + (thing,), (thing,) + SCHEME, [*SCHEME, thing]]
    for at in range(5):
        found.append(SCHEME[:at] + (thing,) + SCHEME[at + 1:])
        found.append(SCHEME[:at] + ((thing,),) + SCHEME[at + 1:])
        found.append(SCHEME[:at] + (("a", thing),) + SCHEME[at + 1:])
        found.append(SCHEME[:at] + (((thing,),),) + SCHEME[at + 1:])
    return found


class AnyValueTest(unittest.TestCase):
    def check(self, question, thing):
        before = copy.deepcopy(thing)
        answer = question(thing)
        self.assertIs(type(answer), bool, (question, thing))
        self.assertIs(question(thing=thing), answer)
        # The text of a value tells True from 1, which == does not.
        self.assertEqual(repr(thing), repr(before))

    def test_every_value_gets_true_or_false_and_stays_as_it_is(self):
        for question in QUESTIONS:
            for thing in any_values():
                self.check(question, thing)

    def test_every_value_within_a_scheme(self):
        for thing in any_values():
            for whole in placed_in_scheme(thing):
                self.check(is_scheme, whole)

    def test_every_value_within_a_party_set(self):
        for thing in any_values():
            for whole in ((thing,), ("a", thing), (thing, "z"), [thing], {"a": thing}):
                self.check(is_party_set, whole)

    def test_only_names_are_names(self):
        names = [thing for thing in any_values() if is_name(thing)]
        self.assertEqual(names, ["a", "abcdef"])

    def test_only_party_sets_are_party_sets(self):
        sets = [thing for thing in any_values() if is_party_set(thing)]
        self.assertEqual(sets, [(), ("a",), ("a", "b")])

    def test_none_of_them_is_a_scheme(self):
        self.assertEqual([thing for thing in any_values() if is_scheme(thing)], [])


class ExactTextTest(unittest.TestCase):
    def test_values_have_one_text_only_if_they_are_the_same(self):
        things = any_values() + (
            [True], [1], ["1"], (1,), ((1,),), ([1],), [[1]], [[], []], [[]], [], "[]", "()", "(1,)", "1", 1, "'1'", True,
            {1: 2}, {True: 2}, {1: 2, 3: 4}, {1: [2]}, {"1": 2}, {(1,): 2}, {(True,): 2}, ((1, 2),), ((1,), (2,)),
            ("a,", "b"), ("a", ",b"), ["a", "b"], ("a", "b"), "a,b", ("'a','b'",), {"a:b": 1}, {"a": ":b"}, (None,), ("None",),
        )
        for first in things:
            for second in things:
                self.assertEqual(exact_text(first) == exact_text(second), same(first, second), (first, second))

    def test_the_order_of_a_dict_does_not_matter(self):
        one, other = {"a": 1, 2: {3: 4, 1: 2}}, {2: {1: 2, 3: 4}, "a": 1}
        for first, second in ((one, other), ([one], [other]), ((one,), (other,)), ({1: one}, {1: other})):
            self.assertEqual(exact_text(first), exact_text(second))
        self.assertNotEqual(exact_text({"a": 1, "b": 2}), exact_text({"a": 2, "b": 1}))

    def test_copies_are_the_same_and_share_nothing(self):
        for thing in any_values():
            self.assertEqual(exact_text(copied(thing)), exact_text(thing))
        inner = [1, {"a": [2]}]
        copy_of = copied((inner,))
        inner[1]["a"].append(3)
        inner.append(4)
        self.assertEqual(copy_of, ([1, {"a": [2]}],))


if __name__ == "__main__":
    unittest.main()
