"""What counts as an integer, and which integers are prime."""


def is_integer(thing):
    """Return whether any value is an integer. True and False are none."""
    return isinstance(thing, int) and not isinstance(thing, bool)


def is_prime(number):
    """Return whether a small integer is a prime number."""
    return number >= 2 and all(number % divisor != 0 for divisor in range(2, number))
