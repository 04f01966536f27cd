"""Point 3: what observers see depends on nothing but the results that they receive.

Two networks run side by side. The honest clients that do not observe store other values in the second one, and the
random numbers of dealings change as point 20 says; then the observers must see the same, message for message.
"""

import random
import unittest

from lotkept.networks import Network
from lotkept.schemes import holders
from tests.forgeries import random_faulty, random_numbers, random_operation, random_overrides, random_scheme
from tests.helpers import FIVE, FOUR

DENSE = (3, ("a", "b", "c", "d", "e"), ("p", "q"), FIVE[3][:4], FIVE[3][:4])


class Twins:
    """The two networks; the second one is built once more whenever its random numbers change."""

    def __init__(self, scheme, faulty, randomness, observers):
        self.scheme, self.faulty, self.observers = scheme, faulty, observers
        self.first = Network(scheme, faulty, randomness)
        self.numbers = {party: list(numbers) for party, numbers in randomness}
        self.position = {party: 0 for party in self.numbers}
        self.past = []
        servers = {party for party in observers if party in scheme[1]}
        # The share that no observer holds.
        self.place = [servers <= set(names) for names in scheme[3]].index(True)
        self.rebuild()

    def rebuild(self):
        randomness = tuple((party, tuple(self.numbers[party])) for party in sorted(self.numbers))
        self.second = Network(self.scheme, self.faulty, randomness)
        for word, arguments, overrides in self.past:
            getattr(self.second, word)(*arguments, overrides=overrides)

    def deal(self, dealer, first, second):
        """Change the random numbers of a dealing of which the value may differ."""
        many = len(self.scheme[3]) - 1
        prime = self.scheme[0]
        difference = (second - first) % prime
        if dealer not in self.observers and difference and self.place < many:
            at = self.position[dealer] + self.place
            self.numbers[dealer][at] = (self.numbers[dealer][at] + difference) % prime
        self.position[dealer] += many

    def deal_all(self, word, arguments, others):
        exposed = self.first.exposed()
        if word == "store" and arguments[0] not in exposed:
            self.deal(arguments[0], arguments[2], others[2])
        if word == "multiply":
            every = range(len(self.scheme[3]))
            for a in every:
                for b in every:
                    for dealer in self.scheme[1]:
                        if dealer in holders(self.scheme, a) and dealer in holders(self.scheme, b) \
                                and dealer not in exposed:
                            self.deal(dealer, *[
                                network.shares_at(dealer, arguments[2])[a] * network.shares_at(dealer, arguments[3])[b]
                                for network in (self.first, self.second)
                            ])

    def shows_more(self, word, arguments):
        """Whether the observers would learn from the operation that the values differ."""
        if word == "read" and arguments[0] not in self.observers and arguments[0] not in self.faulty:
            return False
        if word not in ("read", "publish"):
            return False
        return self.first.expected_value(arguments[1]) != self.second.expected_value(arguments[1])

    def run(self, word, arguments, others, overrides):
        self.deal_all(word, arguments, others)
        self.rebuild()
        getattr(self.first, word)(*arguments, overrides=overrides)
        getattr(self.second, word)(*others, overrides=overrides)
        self.past.append((word, others, overrides))

    def views(self):
        return [repr(network.view(self.observers)) for network in (self.first, self.second)]


class PrivacyTest(unittest.TestCase):
    def twins(self, chance, scheme):
        faulty = random_faulty(chance, scheme)
        liars = {party for party in faulty if party in scheme[1]}
        observers = set(chance.choice([names for names in scheme[3] if liars <= set(names)]))
        if chance.random() < 0.3:
            observers = {party for party in observers if party in liars or chance.random() < 0.5}
        observers |= {client for client in scheme[2] if client in faulty or chance.random() < 0.2}
        randomness = random_numbers(chance, scheme, 40 * len(scheme[3]) ** 2)
        return Twins(scheme, faulty, randomness, tuple(sorted(observers)))

    def play(self, chance, twins, most, multiplies):
        products = changes = 0
        for _ in range(most):
            keys = twins.first.stored_keys()
            word, arguments = random_operation(chance, twins.scheme, keys, multiplies and products < 2)
            if twins.shows_more(word, arguments):
                continue
            products += word == "multiply"
            others = arguments
            if word == "store" and arguments[0] not in twins.observers:
                others = arguments[:2] + (chance.randrange(twins.scheme[0]),)
                changes += others != arguments
            overrides = random_overrides(chance, twins.first, twins.scheme, twins.faulty, (word, arguments), 0.3)
            twins.run(word, arguments, others, overrides)
            self.assertEqual(*twins.views())
            for query in ("exposed", "disputes", "incident_count"):
                self.assertEqual(getattr(twins.first, query)(), getattr(twins.second, query)())
        return changes

    def test_random_cases(self):
        changes = 0
        for seed in range(60):
            chance = random.Random(seed)
            multiplies = chance.random() < 0.5
            with self.subTest(seed=seed):
                twins = self.twins(chance, random_scheme(chance, multiplies))
                changes += self.play(chance, twins, 8, multiplies)
        self.assertGreater(changes, 30)

    def test_multiplications(self):
        changes = 0
        for seed in range(10):
            chance = random.Random(seed)
            with self.subTest(seed=seed):
                twins = self.twins(chance, chance.choice((FOUR, DENSE)))
                changes += self.play(chance, twins, 5, True)
        self.assertGreater(changes, 3)


if __name__ == "__main__":
    unittest.main()
