import unittest

from lotkept.integers import is_integer, is_prime
from tests.any_values import any_values


class IntegerTest(unittest.TestCase):
    def test_booleans_are_no_integers(self):
        self.assertIs(is_integer(True), False)
        self.assertIs(is_integer(False), False)
        for number in (-1, 0, 1, 10**40):
            self.assertIs(is_integer(number), True)

    def test_every_value(self):
        for thing in any_values():
            self.assertIs(is_integer(thing), type(thing) is int, thing)


class PrimeTest(unittest.TestCase):
    def test_small_integers(self):
        primes = [number for number in range(-10, 50) if is_prime(number)]
        self.assertEqual(primes, [2, 3, 5, 7, 11, 13, 17, 19, 23, 29, 31, 37, 41, 43, 47])

    def test_squares_of_primes(self):
        for number in (4, 9, 25, 49, 121, 169, 289, 361, 529, 841, 961):
            self.assertIs(is_prime(number), False, number)
        self.assertIs(is_prime(997), True)


if __name__ == "__main__":
    unittest.main()
