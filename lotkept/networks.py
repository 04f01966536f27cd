"""Networks: the servers and clients of a scheme, the values that they keep, and all that they did."""

from lotkept.any_values import copied
from lotkept.dealings import ROUNDS_OF_DEALING, Dealing, numbers_per_dealing
from lotkept.errors import InvalidFaulty, InvalidName, InvalidObservers, InvalidOverrides, InvalidRandomness
from lotkept.errors import InvalidScheme, InvalidValue, UnknownClient, UnknownKey, UnknownParty, UnknownServer
from lotkept.openings import ROUNDS_OF_OPENING, Opening
from lotkept.overrides import are_overrides
from lotkept.party_sets import is_name
from lotkept.products import ROUNDS_OF_PRODUCT, Product, numbers_per_product
from lotkept.rounds import run_rounds
from lotkept.schemes import all_parties, are_parties_within, is_scheme, is_value
from lotkept.schemes import require_multiplication, require_storage, share_count
from lotkept.shares import add_parts, combine_shares, scale_part
from lotkept.states import state_after
from lotkept.supplies import Supply, is_randomness


class Network:
    """The parties of a scheme, some of them faulty, with the random numbers that they use."""

    def __init__(self, scheme, faulty, randomness):
        if not is_scheme(scheme):
            raise InvalidScheme("the first argument is not a scheme")
        require_storage(scheme)
        if not are_parties_within(scheme, faulty, scheme[4]):
            raise InvalidFaulty("the second argument is not a set of parties with the servers of one fault set")
        if not is_randomness(scheme, randomness):
            raise InvalidRandomness("the third argument is not a tuple of parties and their numbers")
        self._scheme = scheme
        self._faulty = faulty
        self._supply = Supply(scheme, randomness)
        self._state = ((), ())
        # For each key: what each server has, and the value that a single trusted server has.
        self._parts = {}
        self._expected = {}
        self._sent = []
        self._rounds = 0
        self._operations = 0
        self._incidents = 0

    def __len__(self):
        return len(self._parts)

    def store(self, client, key, value, *, overrides=()):
        """Deal the shares of a value of the client to the servers."""
        self._require_client(client)
        self._require_name(key)
        self._require_value(value)
        self._require_overrides(overrides)
        exposed, _ = self._state
        needs = {client: 0 if client in exposed else numbers_per_dealing(self._scheme)}
        numbers = self._supply.take(needs)
        dealing = Dealing(self._scheme, self._state, (client,), value, numbers[client])
        self._run(dealing, ROUNDS_OF_DEALING, overrides)
        parts = self._parts_by_server(dealing)
        # What a faulty client stores is what its messages led to, not what it was asked to store.
        expected = self._honest_value(parts) if client in self._faulty else value
        self._keep(key, parts, expected)

    def add(self, client, key, first, second, *, overrides=()):
        """Keep the sum of two values under the key."""
        self._require_client(client)
        self._require_key(first)
        self._require_key(second)
        self._require_name(key)
        self._require_overrides(overrides)
        self._finish([], (), ())
        parts = {
            server: add_parts(self._scheme, self._parts[first][server], self._parts[second][server])
            for server in self._scheme[1]
        }
        self._keep(key, parts, (self._expected[first] + self._expected[second]) % self._scheme[0])

    def scale(self, client, key, factor, first, *, overrides=()):
        """Keep a multiple of a value under the key."""
        self._require_client(client)
        self._require_key(first)
        self._require_name(key)
        self._require_value(factor)
        self._require_overrides(overrides)
        self._finish([], (), ())
        parts = {
            server: scale_part(self._scheme, factor, self._parts[first][server])
            for server in self._scheme[1]
        }
        self._keep(key, parts, factor * self._expected[first] % self._scheme[0])

    def multiply(self, client, key, first, second, *, overrides=()):
        """Keep the product of two values under the key."""
        self._require_client(client)
        self._require_key(first)
        self._require_key(second)
        self._require_name(key)
        require_multiplication(self._scheme)
        self._require_overrides(overrides)
        numbers = self._supply.take(numbers_per_product(self._scheme, self._state))
        factors = (self._parts[first], self._parts[second])
        product = Product(self._scheme, self._state, factors, numbers)
        self._run(product, ROUNDS_OF_PRODUCT, overrides)
        expected = self._expected[first] * self._expected[second] % self._scheme[0]
        self._keep(key, self._parts_by_server(product), expected)

    def read(self, client, key, *, overrides=()):
        """Return the value and the party set of the servers that reported something else; None for a faulty client."""
        self._require_client(client)
        self._require_key(key)
        self._require_overrides(overrides)
        opening = Opening(self._scheme, self._state, self._parts[key], client)
        self._run(opening, ROUNDS_OF_OPENING, overrides)
        if client in self._faulty:
            return None
        return opening.opened_value(), opening.deviating()

    def publish(self, client, key, *, overrides=()):
        """Return the value, which everybody gets."""
        self._require_client(client)
        self._require_key(key)
        self._require_overrides(overrides)
        opening = Opening(self._scheme, self._state, self._parts[key], "")
        self._run(opening, ROUNDS_OF_OPENING, overrides)
        return opening.opened_value()

    def stored_keys(self):
        """Return the existing keys, ascending."""
        return tuple(sorted(self._parts))

    def expected_value(self, key):
        """Return the value that a single trusted server has under the key."""
        self._require_key(key)
        return self._expected[key]

    def shares_at(self, server, key):
        """Return the shares that a server has, with None for those of which it is no holder."""
        if server not in self._scheme[1]:
            raise UnknownServer(server)
        self._require_key(key)
        return self._parts[key][server]

    def exposed(self):
        """Return the party set of the exposed parties."""
        return self._state[0]

    def disputes(self):
        """Return the pairs of parties that are in dispute, ascending."""
        return self._state[1]

    def round_count(self):
        """Return how many rounds took place."""
        return self._rounds

    def operation_count(self):
        """Return how many operations took place."""
        return self._operations

    def remaining(self, party):
        """Return how many random numbers a party has left."""
        if party not in all_parties(self._scheme):
            raise UnknownParty(party)
        return self._supply.left(party)

    def messages(self):
        """Return all messages sent, as (operation, round, sender, recipient, payload)."""
        return tuple(self._shown(message) for message in self._sent)

    def incident_count(self):
        """Return the number of operations in which a complaint counted or a term was opened."""
        return self._incidents

    def view(self, observers):
        """Return the messages that the observers see, and the random numbers that they used."""
        if not are_parties_within(self._scheme, observers, self._scheme[3]):
            raise InvalidObservers(observers)
        seen = [message for message in self._sent if _is_seen(message, observers)]
        used = tuple((party, self._supply.used(party)) for party in observers)
        return tuple(self._shown(message) for message in seen), used

    def _require_client(self, client):
        if client not in self._scheme[2]:
            raise UnknownClient(client)

    def _require_key(self, key):
        if not is_name(key) or key not in self._parts:
            raise UnknownKey(key)

    def _require_name(self, key):
        if not is_name(key):
            raise InvalidName(key)

    def _require_value(self, value):
        if not is_value(self._scheme, value):
            raise InvalidValue(value)

    def _require_overrides(self, overrides):
        if not are_overrides(self._scheme, self._faulty, overrides):
            raise InvalidOverrides(overrides)

    def _run(self, protocol, count, overrides):
        """Run the rounds of an operation, and note what everybody learns from them."""
        rounds = run_rounds(self._scheme, protocol, count, overrides)
        if protocol.is_incident():
            self._incidents += 1
        self._finish(rounds, protocol.newly_exposed(), protocol.new_disputes())

    def _finish(self, rounds, newly_exposed, new_disputes):
        for turn, messages in enumerate(rounds):
            self._sent.extend([(self._operations, turn + 1) + message for message in messages])
        self._rounds += len(rounds)
        self._operations += 1
        self._state = state_after(self._scheme, self._state, newly_exposed, new_disputes)

    def _keep(self, key, parts, expected):
        self._parts[key] = parts
        self._expected[key] = expected

    def _parts_by_server(self, protocol):
        return {server: protocol.part_of(server) for server in self._scheme[1]}

    def _honest_value(self, parts):
        """Return the value of which the honest holders have the shares."""
        honest = [parts[server] for server in self._scheme[1] if server not in self._faulty]
        shares = []
        for index in range(share_count(self._scheme)):
            shares.append([part[index] for part in honest if part[index] is not None][0])
        return combine_shares(self._scheme, shares)

    def _shown(self, message):
        # Only a faulty party's payloads may have lists and dicts, which the caller may change.
        return copied(message) if message[2] in self._faulty else message


def _is_seen(message, observers):
    _, _, sender, recipient, _ = message
    return sender in observers or recipient in observers or recipient == ""
