"""What each server computes by itself: sums and multiples. They take no round."""

from lotkept.shares import add_parts, scale_part


class Computation:
    """An operation without a round, of which each server knows its part of the result."""

    def __init__(self, parts):
        self._parts = parts

    def turn_count(self):
        """Return how many rounds the operation takes."""
        return 0

    def part_of(self, server):
        """Return what a server has of the result."""
        return self._parts[server]

    def is_incident(self):
        """Return whether the parties had additional work: never."""
        return False

    def newly_exposed(self):
        """Return the parties that the operation exposes: none."""
        return []

    def new_disputes(self):
        """Return the disputes that the operation leads to: none."""
        return []


def sum_of(scheme, first, second):
    """Return the addition of two values, of which each server has these parts."""
    return Computation({server: add_parts(scheme, first[server], second[server]) for server in scheme[1]})


def multiple_of(scheme, factor, parts):
    """Return the multiplication by a factor that everybody knows."""
    return Computation({server: scale_part(scheme, factor, parts[server]) for server in scheme[1]})
