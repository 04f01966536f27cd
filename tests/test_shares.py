import itertools
import unittest

from lotkept.schemes import is_scheme
from lotkept.shares import add_parts, combine_shares, part_of_server, public_shares, scale_part, split_value
from tests.helpers import FOUR, ONE_SHARE, THREE

PRIMES = (2, 3, 7, 997)
PAIRS = (("a", "b"), ("a", "c"), ("a", "d"), ("b", "c"), ("b", "d"), ("c", "d"))


def scheme_with(prime, many):
    """A scheme with this many observer sets."""
    scheme = (prime, ("a", "b", "c", "d", "e"), ("p",), PAIRS[:many], ((),))
    if not is_scheme(scheme):
        raise AssertionError(scheme)
    return scheme


class SplitTest(unittest.TestCase):
    def test_by_position_and_by_name(self):
        self.assertEqual(split_value(THREE, 5, (3, 9)), (3, 2, 0))
        self.assertEqual(split_value(scheme=THREE, value=5, numbers=(3, 9)), (3, 2, 0))
        self.assertEqual(split_value(THREE, numbers=(3, 9), value=5), (3, 2, 0))

    def check(self, scheme, value, numbers):
        shares = split_value(scheme, value, numbers)
        self.assertIs(type(shares), tuple)
        self.assertEqual(len(shares), len(scheme[3]))
        self.assertEqual(shares[:-1], tuple(number % scheme[0] for number in numbers))
        for share in shares:
            self.assertIs(type(share), int)
            self.assertIn(share, range(scheme[0]))
        self.assertEqual(sum(shares) % scheme[0], value)
        self.assertEqual(combine_shares(scheme, shares), value)

    def test_one_to_six_observer_sets(self):
        for prime, many in itertools.product(PRIMES, range(1, 7)):
            for value in {0, 1, prime - 1, prime // 2}:
                for number in (0, 1, -1, prime - 1, prime, prime + 1, -prime, 10 ** 39 + 7, 1 - 10 ** 40):
                    self.check(scheme_with(prime, many), value, (number,) * (many - 1))
                self.check(scheme_with(prime, many), value, tuple(range(3, 2 + many)))

    def test_one_observer_set_needs_no_number(self):
        for value in range(7):
            self.assertEqual(split_value(ONE_SHARE, value, ()), (value,))

    def test_each_number_is_the_share_at_its_own_place(self):
        self.assertEqual(split_value(scheme_with(997, 6), 0, (1, 2, 3, 4, 5)), (1, 2, 3, 4, 5, 982))
        self.assertEqual(split_value(FOUR, 6, (7, -1, 15)), (0, 6, 1, 6))


class PublicTest(unittest.TestCase):
    def test_by_position_and_by_name(self):
        self.assertEqual(public_shares(THREE, 5), (5, 0, 0))
        self.assertEqual(public_shares(scheme=THREE, value=5), (5, 0, 0))

    def test_one_to_six_observer_sets(self):
        for prime, many in itertools.product(PRIMES, range(1, 7)):
            for value in {0, 1, prime - 1}:
                shares = public_shares(scheme_with(prime, many), value)
                self.assertEqual(shares, (value,) + (0,) * (many - 1))
                self.assertEqual({type(share) for share in shares}, {int})


class CombineTest(unittest.TestCase):
    def test_by_position_and_by_name(self):
        self.assertEqual(combine_shares(THREE, (3, 2, 0)), 5)
        self.assertEqual(combine_shares(scheme=THREE, shares=(3, 2, 0)), 5)

    def test_all_shares_of_small_schemes(self):
        for prime, many in itertools.product((2, 3, 5), range(1, 5)):
            for shares in itertools.product(range(prime), repeat=many):
                value = combine_shares(scheme_with(prime, many), shares)
                self.assertIs(type(value), int)
                self.assertIn(value, range(prime))
                self.assertEqual((sum(shares) - value) % prime, 0)

    def test_the_largest_shares(self):
        self.assertEqual(combine_shares(scheme_with(997, 6), (996,) * 6), 991)
        self.assertEqual(combine_shares(scheme_with(2, 6), (1,) * 6), 0)


class PartTest(unittest.TestCase):
    def test_a_server_has_the_shares_that_it_holds(self):
        parts = [part_of_server(THREE, server, (3, 2, 0)) for server in "abc"]
        self.assertEqual(parts, [(None, 2, 0), (3, None, 0), (3, 2, None)])

    def test_sums_and_multiples_leave_out_what_the_server_does_not_hold(self):
        self.assertEqual(add_parts(THREE, (None, 2, 6), (None, 0, 6)), (None, 2, 5))
        self.assertEqual(scale_part(THREE, 3, (None, 2, 6)), (None, 6, 4))
        self.assertEqual(scale_part(THREE, 0, (3, None, 6)), (0, None, 0))


if __name__ == "__main__":
    unittest.main()
