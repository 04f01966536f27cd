"""What a multiplication requires of each party, and what it leads to."""

from lotkept.dealings import ROUNDS_OF_DEALING, Dealing, numbers_per_dealing
from lotkept.schemes import share_count
from lotkept.shares import add_parts
from lotkept.states import active_holders
from lotkept.terms import Term

ROUNDS_OF_PRODUCT = 7


def numbers_per_product(scheme, state):
    """Return how many random numbers each server needs for a multiplication."""
    needs = {server: 0 for server in scheme[1]}
    for first, second in _pairs(scheme):
        for dealer in _dealers(scheme, state, first, second):
            needs[dealer] += numbers_per_dealing(scheme)
    return needs


class Product:
    """A multiplication, from round to round."""

    def __init__(self, scheme, state, factors, numbers):
        self._scheme = scheme
        self._turn = 0
        self._terms = []
        # Where the next dealing of each server begins among its random numbers.
        starts = {server: 0 for server in scheme[1]}
        for pair in _pairs(scheme):
            dealings = []
            for dealer in _dealers(scheme, state, pair[0], pair[1]):
                start = starts[dealer]
                starts[dealer] = start + numbers_per_dealing(scheme)
                value = factors[0][dealer][pair[0]] * factors[1][dealer][pair[1]]
                own = numbers[dealer][start:starts[dealer]]
                dealings.append(Dealing(scheme, state, (dealer,) + pair, value, own))
            self._terms.append(Term(scheme, state, pair, factors, dealings))

    def required(self, turn, party):
        """Return the messages that are required of the party in a round."""
        return [message for term in self._terms for message in term.required(turn, party)]

    def deliver(self, mail):
        """Take the messages of the next round."""
        self._turn += 1
        for term in self._terms:
            term.deliver(self._turn, mail)
        if self._turn == ROUNDS_OF_DEALING:
            self._leave_out_failed()

    def part_of(self, server):
        """Return what a server has of the product after the last round."""
        part = self._terms[0].part_of(server)
        for term in self._terms[1:]:
            part = add_parts(self._scheme, part, term.part_of(server))
        return part

    def is_incident(self):
        """Return whether a complaint counts or a term is opened."""
        return any(term.is_incident() for term in self._terms)

    def newly_exposed(self):
        """Return the parties that the multiplication exposes."""
        return [party for term in self._terms for party in term.newly_exposed()]

    def new_disputes(self):
        """Return the disputes that the multiplication leads to."""
        return [pair for term in self._terms for pair in term.new_disputes()]

    def _leave_out_failed(self):
        # Who failed in one of its dealings is not trusted with any of them.
        failed = [dealer for term in self._terms for dealer in term.failed_dealers()]
        for term in self._terms:
            term.leave_out(failed)


def _pairs(scheme):
    indexes = range(share_count(scheme))
    return [(first, second) for first in indexes for second in indexes]


def _dealers(scheme, state, first, second):
    """Return the servers that hold both shares and are not exposed."""
    other = active_holders(scheme, state, second)
    return [server for server in active_holders(scheme, state, first) if server in other]
