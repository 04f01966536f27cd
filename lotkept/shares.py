"""Shares of values: one for each observer set, in the same order; their sum is the value.

What a server has of a value is a tuple with each share of which it is a holder, and None for the others.
"""

from lotkept.schemes import holders, share_count


def split_value(scheme, value, numbers):
    """Return the shares of a value; numbers has one integer for each share but the last."""
    prime = scheme[0]
    shares = tuple(number % prime for number in numbers)
    return shares + ((value - sum(shares)) % prime,)


def public_shares(scheme, value):
    """Return the shares of a value that everybody knows."""
    return (value,) + (0,) * (share_count(scheme) - 1)


def combine_shares(scheme, shares):
    """Return the value that the shares add up to."""
    return sum(shares) % scheme[0]


def part_of_server(scheme, server, shares):
    """Return what a server has of these shares."""
    return tuple(share if server in holders(scheme, index) else None for index, share in enumerate(shares))


def add_parts(scheme, first, second):
    """Return what a server has of the sum of two values of which it has these parts."""
    return tuple(None if one is None else (one + other) % scheme[0] for one, other in zip(first, second))


def scale_part(scheme, factor, part):
    """Return what a server has of the multiple of a value of which it has this part."""
    return tuple(None if share is None else factor * share % scheme[0] for share in part)
