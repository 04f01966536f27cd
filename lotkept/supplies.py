"""The random numbers of all parties."""

from lotkept.errors import RandomnessExhausted
from lotkept.integers import is_integer
from lotkept.party_sets import is_party_set, is_subset
from lotkept.schemes import all_parties


def is_randomness(scheme, thing):
    """Return whether any value is an ascending tuple of parties, each with its random numbers."""
    if not isinstance(thing, tuple) or not all(_is_row(entry) for entry in thing):
        return False
    names = tuple(entry[0] for entry in thing)
    return is_party_set(names) and is_subset(names, all_parties(scheme))


class Supply:
    """Random numbers that are used in their order, each once."""

    def __init__(self, scheme, randomness):
        self._numbers = {party: () for party in all_parties(scheme)}
        self._counts = {party: 0 for party in all_parties(scheme)}
        for party, numbers in randomness:
            self._numbers[party] = numbers

    def left(self, party):
        """Return how many random numbers a party has left."""
        return len(self._numbers[party]) - self._counts[party]

    def used(self, party):
        """Return the random numbers that a party has used."""
        return self._numbers[party][:self._counts[party]]

    def take(self, needs):
        """Use as many random numbers of each party as it needs, and return them."""
        for party in sorted(needs):
            if self.left(party) < needs[party]:
                raise RandomnessExhausted(party)
        taken = {}
        for party in needs:
            start = self._counts[party]
            self._counts[party] = start + needs[party]
            taken[party] = self._numbers[party][start:self._counts[party]]
        return taken


def _is_row(thing):
    if not isinstance(thing, tuple) or len(thing) != 2 or not isinstance(thing[1], tuple):
        return False
    return all(is_integer(number) and number >= 0 for number in thing[1])
