"""What is known from operation to operation: the public state, and what each server has under each key."""

from lotkept.computations import multiple_of, sum_of
from lotkept.dealings import Dealing, numbers_per_dealing
from lotkept.openings import Opening
from lotkept.operations import creates_key
from lotkept.products import Product, numbers_per_product
from lotkept.states import state_after


class Ledger:
    """The account of a network, or of one party alone, which has 0 for all that this party does not know."""

    def __init__(self, scheme):
        self._scheme = scheme
        self._state = ((), ())
        # For each key: what each server has.
        self._parts = {}

    def state(self):
        """Return the public state."""
        return self._state

    def keys_in_use(self):
        """Return the existing keys, ascending."""
        return tuple(sorted(self._parts))

    def part_at(self, server, key):
        """Return what a server has under an existing key."""
        return self._parts[key][server]

    def needs(self, word, arguments):
        """Return how many random numbers an operation takes from each party that uses some."""
        if word == "store":
            exposed, _ = self._state
            return {arguments[0]: 0 if arguments[0] in exposed else numbers_per_dealing(self._scheme)}
        if word == "multiply":
            return numbers_per_product(self._scheme, self._state)
        return {}

    def protocol(self, word, arguments, numbers):
        """Return what an operation requires of each party and leads to, with these random numbers of the parties."""
        if word == "store":
            client, _, value = arguments
            return Dealing(self._scheme, self._state, (client,), value, numbers[client])
        if word == "scale":
            _, _, factor, first = arguments
            return multiple_of(self._scheme, factor, self._parts[first])
        if word == "read":
            return Opening(self._scheme, self._state, self._parts[arguments[1]], arguments[0])
        if word == "publish":
            return Opening(self._scheme, self._state, self._parts[arguments[1]], "")
        _, _, first, second = arguments
        if word == "add":
            return sum_of(self._scheme, self._parts[first], self._parts[second])
        return Product(self._scheme, self._state, (self._parts[first], self._parts[second]), numbers)

    def enter(self, word, arguments, protocol):
        """Note what an operation led to, after its last round."""
        self._state = state_after(self._scheme, self._state, protocol.newly_exposed(), protocol.new_disputes())
        if creates_key(word):
            self._parts[arguments[1]] = {server: protocol.part_of(server) for server in self._scheme[1]}
