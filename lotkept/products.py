"""What a multiplication requires of each party, and what it leads to."""

from lotkept.dealings import ROUNDS_OF_DEALING, Dealing, numbers_per_dealing
from lotkept.schemes import share_count
from lotkept.shares import add_parts
from lotkept.states import active_holders
from lotkept.terms import Term

ROUNDS_OF_PRODUCT = 7


def pairs_dealt_by(scheme, state, server):
    """Return the indexes a, b of the terms of which a server deals its part, in the order of its random numbers."""
    held = [index for index in range(share_count(scheme)) if server in active_holders(scheme, state, index)]
    return [(first, second) for first in held for second in held]


def numbers_per_product(scheme, state):
    """Return how many random numbers each server needs for a multiplication."""
    many = numbers_per_dealing(scheme)
    return {server: many * len(pairs_dealt_by(scheme, state, server)) for server in scheme[1]}


class Product:
    """A multiplication, from round to round."""

    def __init__(self, scheme, state, factors, numbers):
        self._scheme = scheme
        self._turn = 0
        indexes = range(share_count(scheme))
        dealings = {(first, second): [] for first in indexes for second in indexes}
        many = numbers_per_dealing(scheme)
        for dealer in scheme[1]:
            for at, pair in enumerate(pairs_dealt_by(scheme, state, dealer)):
                value = factors[0][dealer][pair[0]] * factors[1][dealer][pair[1]]
                own = numbers[dealer][many * at:many * (at + 1)]
                dealings[pair].append(Dealing(scheme, state, (dealer,) + pair, value, own))
        self._terms = [Term(scheme, state, pair, factors, dealings[pair]) for pair in dealings]

    def turn_count(self):
        """Return how many rounds the multiplication takes."""
        return ROUNDS_OF_PRODUCT

    def required(self, turn, party):
        """Return the messages that are required of the party in a round."""
        return [message for term in self._terms for message in term.required(turn, party)]

    def deliver(self, mail):
        """Take the messages of the next round."""
        self._turn += 1
        for term in self._terms:
            term.deliver(self._turn, mail)
        if self._turn == ROUNDS_OF_DEALING:
            self._leave_out_failed()

    def part_of(self, server):
        """Return what a server has of the product after the last round."""
        part = self._terms[0].part_of(server)
        for term in self._terms[1:]:
            part = add_parts(self._scheme, part, term.part_of(server))
        return part

    def is_incident(self):
        """Return whether a complaint counts or a term is opened."""
        return any(term.is_incident() for term in self._terms)

    def newly_exposed(self):
        """Return the parties that the multiplication exposes."""
        return [party for term in self._terms for party in term.newly_exposed()]

    def new_disputes(self):
        """Return the disputes that the multiplication leads to."""
        return [pair for term in self._terms for pair in term.new_disputes()]

    def _leave_out_failed(self):
        # Who failed in one of its dealings is not trusted with any of them.
        failed = [dealer for term in self._terms for dealer in term.failed_dealers()]
        for term in self._terms:
            term.leave_out(failed)
