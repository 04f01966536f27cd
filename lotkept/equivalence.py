"""Scenarios that look the same to observers, although others store other values in them."""

from lotkept.any_values import copied
from lotkept.dealings import numbers_per_dealing
from lotkept.errors import InvalidObservers, NotEquivalent
from lotkept.networks import Network
from lotkept.operations import creates_key, perform
from lotkept.party_sets import is_subset
from lotkept.products import pairs_dealt_by
from lotkept.scenarios import run_scenario


def equivalent_scenario(scenario, observers, values):
    """Return the scenario in which parties that do not observe store these values, with the same view."""
    scheme, faulty, randomness, operations = scenario
    # For the errors, which come before those of the other scenario.
    run_scenario(scenario).view(observers)
    if not is_subset(faulty, observers):
        raise InvalidObservers(observers)
    shift = Shift(scheme, faulty, randomness, observers, values)
    changed = []
    for step in operations:
        changed.append(shift.follow(step))
    return scheme, faulty, shift.shifted_randomness(), tuple(changed)


def is_free_store(step, observers):
    """Return whether an operation of a scenario stores the value of a client that does not observe."""
    word, arguments, _ = step
    return word == "store" and arguments[0] not in observers


class Shift:
    """How the other scenario differs from a given one, which it follows from operation to operation.

    It differs in nothing but one share of each value, of which no observer is a holder. So the difference of a value
    is that of this share, and the given scenario tells what the other one deals without being run itself.
    """

    def __init__(self, scheme, faulty, randomness, observers, values):
        self._scheme = scheme
        self._network = Network(scheme, faulty, randomness)
        self._randomness = randomness
        self._lengths = {party: len(numbers) for party, numbers in randomness}
        self._observers = observers
        self._hidden = _hidden_index(scheme, observers)
        self._values = values
        self._replaced = 0
        # For each key, the value in the other scenario minus the given one.
        self._value_differences = {}
        # For each party, what is added to its random numbers with these indexes.
        self._additions = {party: {} for party, _ in randomness}

    def follow(self, step):
        """Run the next operation of the given scenario, and return that of the other one."""
        word, arguments, overrides = step
        if self._shows_difference(word, arguments):
            raise NotEquivalent(self._network.operation_count())
        changed = arguments
        if is_free_store(step, self._observers):
            changed = arguments[:2] + (self._values[self._replaced],)
            self._replaced += 1
            self._shift_dealing(arguments[0], 0, changed[2] - arguments[2])
        if word == "multiply":
            self._shift_products(arguments[2], arguments[3])
        if creates_key(word):
            self._value_differences[arguments[1]] = self._difference(word, arguments, changed) % self._scheme[0]
        perform(self._network, word, arguments, overrides)
        # The two scenarios have no list and no dict in common.
        return word, changed, copied(overrides)

    def shifted_randomness(self):
        """Return the random numbers of the other scenario."""
        return tuple((party, self._shifted_numbers(party, numbers)) for party, numbers in self._randomness)

    def _shows_difference(self, word, arguments):
        """Return whether an observer gets a value that differs."""
        if word == "read":
            return arguments[0] in self._observers and self._value_differences[arguments[1]] != 0
        return word == "publish" and self._value_differences[arguments[1]] != 0

    def _difference(self, word, arguments, changed):
        """Return the difference of the value that the operation keeps."""
        if word == "store":
            return changed[2] - arguments[2]
        if word == "scale":
            _, _, factor, first = arguments
            return factor * self._value_differences[first]
        _, _, first, second = arguments
        if word == "add":
            return self._value_differences[first] + self._value_differences[second]
        left, right = self._network.expected_value(first), self._network.expected_value(second)
        return _product_difference(left, self._value_differences[first], right, self._value_differences[second])

    def _shift_products(self, first, second):
        """Note how the dealings of a multiplication differ."""
        state = (self._network.exposed(), self._network.disputes())
        for dealer in self._scheme[1]:
            if dealer not in self._observers:
                for at, pair in enumerate(pairs_dealt_by(self._scheme, state, dealer)):
                    left, right = self._factor(dealer, first, pair[0]), self._factor(dealer, second, pair[1])
                    self._shift_dealing(dealer, at, _product_difference(left[0], left[1], right[0], right[1]))

    def _factor(self, server, key, index):
        """Return what a server has of a share, and how it differs."""
        share = self._network.shares_at(server, key)[index]
        return share, self._value_differences[key] if index == self._hidden else 0

    def _shift_dealing(self, dealer, at, difference):
        """Note that the value differs in the dealing before which a party deals `at` others in this operation."""
        many = numbers_per_dealing(self._scheme)
        # The last share has no random number: it takes the difference up by itself.
        if difference % self._scheme[0] != 0 and self._hidden < many:
            used = self._lengths[dealer] - self._network.remaining(dealer)
            self._additions[dealer][used + many * at + self._hidden] = difference

    def _shifted_numbers(self, party, numbers):
        added = self._additions[party]
        return tuple(
            (number + added[at]) % self._scheme[0] if at in added else number for at, number in enumerate(numbers)
        )


def _hidden_index(scheme, observers):
    """Return the index of the first observer set that contains all servers among the observers."""
    servers = [party for party in observers if party in scheme[1]]
    return [is_subset(servers, names) for names in scheme[3]].index(True)


def _product_difference(left, left_difference, right, right_difference):
    """Return how a product differs of which the factors differ so much."""
    return (left + left_difference) * (right + right_difference) - left * right
