import itertools
import random
import unittest

from lotkept.faults import identify_faulty
from tests.forgeries import random_scheme
from tests.helpers import FIVE, FOUR, TWO

# Two servers may be faulty together, and e never.
PAIRS = (7, ("a", "b", "c", "d", "e", "f"), ("p", "q"), (("a", "b"), ("c", "d")), (("a", "b"), ("c", "d")))


def expected(scheme, exposed, disputes):
    """What point 8 says, with sets."""
    servers = set(scheme[1])
    hits = [set(pair) for pair in disputes if set(pair) <= servers]
    explaining = [
        name for name in scheme[1] for fault in scheme[4]
        if set(exposed) & servers <= set(fault) - {name} and all(pair & (set(fault) - {name}) for pair in hits)
    ]
    return tuple(sorted(set(exposed) | (servers - set(explaining))))


class IdentifyTest(unittest.TestCase):
    def test_by_position_and_by_name(self):
        disputes = (("a", "b"), ("a", "c"))
        self.assertEqual(identify_faulty(FOUR, (), disputes), ("a",))
        self.assertEqual(identify_faulty(scheme=FOUR, exposed=(), disputes=disputes), ("a",))
        self.assertEqual(identify_faulty(FOUR, disputes=disputes, exposed=()), ("a",))

    def test_nothing_known(self):
        for scheme in (TWO, FOUR, FIVE, PAIRS):
            self.assertEqual(identify_faulty(scheme, (), ()), ())

    def test_one_dispute_leaves_it_open(self):
        for pair in itertools.combinations("abcd", 2):
            self.assertEqual(identify_faulty(FOUR, (), (pair,)), ())

    def test_who_is_in_dispute_with_two_others_is_faulty(self):
        self.assertEqual(identify_faulty(FOUR, (), (("a", "d"), ("b", "d"))), ("d",))
        self.assertEqual(identify_faulty(FOUR, (), (("a", "c"), ("b", "c"), ("c", "d"))), ("c",))

    def test_disputes_with_clients_prove_nothing(self):
        disputes = (("a", "p"), ("a", "q"), ("b", "p"), ("c", "p"))
        self.assertEqual(identify_faulty(FOUR, (), disputes), ())
        self.assertEqual(identify_faulty(FOUR, (), disputes + (("d", "p"), ("d", "q"))), ())

    def test_a_dispute_with_an_exposed_party_needs_no_more(self):
        self.assertEqual(identify_faulty(FOUR, ("a",), (("a", "b"), ("a", "c"))), ("a",))
        self.assertEqual(identify_faulty(FOUR, ("p",), (("a", "p"), ("b", "p"))), ("p",))

    def test_exposed_clients_and_servers(self):
        self.assertEqual(identify_faulty(FOUR, ("p", "q"), ()), ("p", "q"))
        self.assertEqual(identify_faulty(FOUR, ("b", "q"), ()), ("b", "q"))
        self.assertEqual(identify_faulty(FOUR, ("q",), (("a", "b"), ("b", "c"))), ("b", "q"))

    def test_several_fault_sets(self):
        # Both fault sets explain this one: a and b together, or c alone.
        self.assertEqual(identify_faulty(PAIRS, (), (("a", "c"), ("b", "c"))), ())
        self.assertEqual(identify_faulty(PAIRS, (), (("a", "e"), ("b", "e"))), ("a", "b"))
        self.assertEqual(identify_faulty(PAIRS, (), (("c", "e"),)), ("c",))
        self.assertEqual(identify_faulty(PAIRS, ("a",), (("b", "c"),)), ("a", "b"))
        self.assertEqual(identify_faulty(PAIRS, ("d",), ()), ("d",))

    def test_a_state_that_no_fault_set_explains(self):
        self.assertEqual(identify_faulty(FOUR, (), (("a", "b"), ("c", "d"))), ("a", "b", "c", "d"))
        self.assertEqual(identify_faulty(FOUR, ("a", "b"), ()), ("a", "b", "c", "d"))
        self.assertEqual(identify_faulty(FOUR, ("a", "q"), (("b", "c"),)), ("a", "b", "c", "d", "q"))
        self.assertEqual(identify_faulty(TWO, (), (("a", "b"),)), ("a", "b"))
        self.assertEqual(identify_faulty(PAIRS, (), (("e", "f"),)), ("a", "b", "c", "d", "e", "f"))

    def test_all_disputes_of_the_example_scheme(self):
        pairs = list(itertools.combinations("abcd", 2)) + [("a", "p"), ("c", "p")]
        for exposed in ((), ("a",), ("b", "p"), ("c", "d")):
            for many in range(4):
                for disputes in itertools.combinations(sorted(pairs), many):
                    found = identify_faulty(FOUR, exposed, disputes)
                    self.assertIs(type(found), tuple)
                    self.assertEqual(found, expected(FOUR, exposed, disputes), (exposed, disputes))

    def test_random_schemes_and_states(self):
        chance = random.Random(8)
        partly = 0
        for _ in range(1500):
            scheme = random_scheme(chance, False)
            parties = sorted(scheme[1] + scheme[2])
            pairs = [pair for pair in itertools.combinations(parties, 2) if set(pair) & set(scheme[1])]
            disputes = tuple(pair for pair in pairs if chance.random() < 0.2)
            exposed = tuple(party for party in parties if chance.random() < 0.1)
            found = identify_faulty(scheme, exposed, disputes)
            self.assertEqual(found, expected(scheme, exposed, disputes), (scheme, exposed, disputes))
            self.assertEqual(identify_faulty(scheme, found, disputes), found)
            partly += set(exposed) < set(found) < set(parties)
        self.assertGreater(partly, 100)


if __name__ == "__main__":
    unittest.main()
