"""Networks: the servers and clients of a scheme, the values that they keep, and all that they did."""

from lotkept.any_values import copied
from lotkept.errors import InvalidFaulty, InvalidObservers, InvalidOverrides, InvalidRandomness, InvalidScheme
from lotkept.errors import UnknownParty, UnknownServer
from lotkept.ledgers import Ledger
from lotkept.operations import require_arguments, require_key
from lotkept.overrides import are_overrides
from lotkept.rounds import run_rounds
from lotkept.schemes import all_parties, are_parties_within, is_scheme, require_storage, share_count
from lotkept.shares import combine_shares
from lotkept.supplies import Supply, is_randomness


class Network:
    """The parties of a scheme, some of them faulty, with the random numbers that they use."""

    def __init__(self, scheme, faulty, randomness):
        if not is_scheme(scheme):
            raise InvalidScheme("the first argument is not a scheme")
        require_storage(scheme)
        if not are_parties_within(scheme, faulty, scheme[4]):
            raise InvalidFaulty("the second argument is not a set of parties with the servers of one fault set")
        if not is_randomness(scheme, randomness):
            raise InvalidRandomness("the third argument is not a tuple of parties and their numbers")
        self._scheme = scheme
        self._faulty = faulty
        self._supply = Supply(scheme, randomness)
        self._ledger = Ledger(scheme)
        # For each key: the value that a single trusted server has.
        self._expected = {}
        # For each operation: (word, arguments, public state before it, random numbers used, messages of each round).
        self._past = []
        self._incidents = 0

    def __len__(self):
        return len(self._expected)

    def store(self, client, key, value, *, overrides=()):
        """Deal the shares of a value of the client to the servers."""
        self._run("store", (client, key, value), overrides)
        # What a faulty client stores is what its messages led to, not what it was asked to store.
        self._expected[key] = self._honest_value(key) if client in self._faulty else value

    def add(self, client, key, first, second, *, overrides=()):
        """Keep the sum of two values under the key."""
        self._run("add", (client, key, first, second), overrides)
        self._expected[key] = (self._expected[first] + self._expected[second]) % self._scheme[0]

    def scale(self, client, key, factor, first, *, overrides=()):
        """Keep a multiple of a value under the key."""
        self._run("scale", (client, key, factor, first), overrides)
        self._expected[key] = factor * self._expected[first] % self._scheme[0]

    def multiply(self, client, key, first, second, *, overrides=()):
        """Keep the product of two values under the key."""
        self._run("multiply", (client, key, first, second), overrides)
        self._expected[key] = self._expected[first] * self._expected[second] % self._scheme[0]

    def read(self, client, key, *, overrides=()):
        """Return the value and the party set of the servers that reported something else; None for a faulty client."""
        opening = self._run("read", (client, key), overrides)
        if client in self._faulty:
            return None
        return opening.opened_value(), opening.deviating()

    def publish(self, client, key, *, overrides=()):
        """Return the value, which everybody gets."""
        return self._run("publish", (client, key), overrides).opened_value()

    def stored_keys(self):
        """Return the existing keys, ascending."""
        return self._ledger.keys_in_use()

    def expected_value(self, key):
        """Return the value that a single trusted server has under the key."""
        require_key(self._expected, key)
        return self._expected[key]

    def shares_at(self, server, key):
        """Return the shares that a server has, with None for those of which it is no holder."""
        if server not in self._scheme[1]:
            raise UnknownServer(server)
        require_key(self._expected, key)
        return self._ledger.part_at(server, key)

    def exposed(self):
        """Return the party set of the exposed parties."""
        return self._ledger.state()[0]

    def disputes(self):
        """Return the pairs of parties that are in dispute, ascending."""
        return self._ledger.state()[1]

    def round_count(self):
        """Return how many rounds took place."""
        return sum(len(rounds) for _, _, _, _, rounds in self._past)

    def operation_count(self):
        """Return how many operations took place."""
        return len(self._past)

    def remaining(self, party):
        """Return how many random numbers a party has left."""
        if party not in all_parties(self._scheme):
            raise UnknownParty(party)
        return self._supply.left(party)

    def messages(self):
        """Return all messages sent, as (operation, round, sender, recipient, payload)."""
        return tuple(
            (at, turn) + message for at, (_, _, _, _, rounds) in enumerate(self.history())
            for turn, messages in enumerate(rounds, start=1) for message in messages
        )

    def incident_count(self):
        """Return the number of operations in which a complaint counted or a term was opened."""
        return self._incidents

    def view(self, observers):
        """Return the messages that the observers see, and the random numbers that they used."""
        if not are_parties_within(self._scheme, observers, self._scheme[3]):
            raise InvalidObservers(observers)
        seen = tuple(message for message in self.messages() if _is_seen(message, observers))
        return seen, tuple((party, self._supply.used(party)) for party in observers)

    def history(self):
        """Return, for each operation, (word, arguments, state, numbers, rounds).

        state is the public state before it; numbers are pairs of a party and the random numbers that it used;
        rounds are the messages (sender, recipient, payload) of each round.
        """
        return tuple(
            (word, arguments, state, numbers, tuple(self._shown(messages) for messages in rounds))
            for word, arguments, state, numbers, rounds in self._past
        )

    def _run(self, word, arguments, overrides):
        """Run an operation that is accepted, and return its protocol after the last round."""
        require_arguments(self._scheme, self._expected, word, arguments)
        if not are_overrides(self._scheme, self._faulty, overrides):
            raise InvalidOverrides(overrides)
        numbers = self._supply.take(self._ledger.needs(word, arguments))
        state = self._ledger.state()
        protocol = self._ledger.protocol(word, arguments, numbers)
        rounds = run_rounds(self._scheme, protocol, overrides)
        self._ledger.enter(word, arguments, protocol)
        self._past.append((word, arguments, state, tuple((party, numbers[party]) for party in numbers), rounds))
        if protocol.is_incident():
            self._incidents += 1
        return protocol

    def _honest_value(self, key):
        """Return the value of which the honest holders have the shares."""
        honest = [self._ledger.part_at(server, key) for server in self._scheme[1] if server not in self._faulty]
        shares = []
        for index in range(share_count(self._scheme)):
            shares.append([part[index] for part in honest if part[index] is not None][0])
        return combine_shares(self._scheme, shares)

    def _shown(self, messages):
        # Only a faulty party's payloads may have lists and dicts, which the caller may change.
        return tuple(copied(message) if message[0] in self._faulty else message for message in messages)


def _is_seen(message, observers):
    _, _, sender, recipient, _ = message
    return sender in observers or recipient in observers or recipient == ""
