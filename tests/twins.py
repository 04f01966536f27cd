"""Two networks side by side that observers cannot tell apart.

The honest clients that do not observe store other values in the second one, and the random numbers of dealings change
as point 20 says. Both networks are run, so this is a second account of that point.
"""

from lotkept.networks import Network
from lotkept.schemes import holders


def random_observers(chance, scheme, faulty):
    """Observers that all faulty parties are among."""
    liars = {party for party in faulty if party in scheme[1]}
    observers = set(chance.choice([names for names in scheme[3] if liars <= set(names)]))
    if chance.random() < 0.3:
        observers = {party for party in observers if party in liars or chance.random() < 0.5}
    observers |= {client for client in scheme[2] if client in faulty or chance.random() < 0.2}
    return tuple(sorted(observers))


def free_stores(scenario, observers):
    """The places of the stores by clients that do not observe."""
    return [
        at for at, (word, arguments, _) in enumerate(scenario[3])
        if word == "store" and arguments[0] not in observers
    ]


def random_values(chance, scenario, observers):
    """Values for these stores, some of them the old ones."""
    return tuple(
        chance.choice((chance.randrange(scenario[0][0]), scenario[3][at][1][2])) for at in free_stores(scenario, observers)
    )


class Twins:
    """The two networks; the second one is built once more whenever its random numbers change."""

    def __init__(self, scheme, faulty, randomness, observers):
        self.scheme, self.faulty, self.observers = scheme, faulty, observers
        self.first = Network(scheme, faulty, randomness)
        self.numbers = {party: list(numbers) for party, numbers in randomness}
        self.position = {party: 0 for party in scheme[1] + scheme[2]}
        self.past = []
        servers = {party for party in observers if party in scheme[1]}
        # The share that no observer holds.
        self.place = [servers <= set(names) for names in scheme[3]].index(True)
        self.rebuild()

    def rebuild(self):
        scenario = self.other_scenario()
        self.second = Network(*scenario[:3])
        for word, arguments, overrides in scenario[3]:
            getattr(self.second, word)(*arguments, overrides=overrides)

    def deal(self, dealer, first, second):
        """Change the random numbers of a dealing of which the value may differ."""
        many = len(self.scheme[3]) - 1
        prime = self.scheme[0]
        difference = (second - first) % prime
        if dealer not in self.observers and difference and self.place < many:
            at = self.position[dealer] + self.place
            self.numbers[dealer][at] = (self.numbers[dealer][at] + difference) % prime
        self.position[dealer] += many

    def deal_all(self, word, arguments, others):
        exposed = self.first.exposed()
        if word == "store" and arguments[0] not in exposed:
            self.deal(arguments[0], arguments[2], others[2])
        if word == "multiply":
            every = range(len(self.scheme[3]))
            for a in every:
                for b in every:
                    for dealer in self.scheme[1]:
                        if dealer in holders(self.scheme, a) and dealer in holders(self.scheme, b) \
                                and dealer not in exposed:
                            self.deal(dealer, *[
                                network.shares_at(dealer, arguments[2])[a] * network.shares_at(dealer, arguments[3])[b]
                                for network in (self.first, self.second)
                            ])

    def shows_more(self, word, arguments):
        """Whether the observers would learn from the operation that the values differ."""
        if word == "read" and arguments[0] not in self.observers and arguments[0] not in self.faulty:
            return False
        if word not in ("read", "publish"):
            return False
        return self.first.expected_value(arguments[1]) != self.second.expected_value(arguments[1])

    def run(self, word, arguments, others, overrides):
        self.deal_all(word, arguments, others)
        self.rebuild()
        getattr(self.first, word)(*arguments, overrides=overrides)
        getattr(self.second, word)(*others, overrides=overrides)
        self.past.append((word, others, overrides))

    def other_scenario(self):
        """The scenario of the second network."""
        randomness = tuple((party, tuple(self.numbers[party])) for party in sorted(self.numbers))
        return self.scheme, self.faulty, randomness, tuple(self.past)

    def views(self):
        return [repr(network.view(self.observers)) for network in (self.first, self.second)]
