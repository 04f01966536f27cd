"""Point 3: what observers see depends on nothing but the results that they receive.

Two networks run side by side (see twins.py); the observers must see the same in both, message for message.
"""

import random
import unittest

from tests.forgeries import random_faulty, random_numbers, random_operation, random_overrides, random_scheme
from tests.helpers import FIVE, FOUR
from tests.twins import Twins, random_observers

DENSE = (3, ("a", "b", "c", "d", "e"), ("p", "q"), FIVE[3][:4], FIVE[3][:4])


class PrivacyTest(unittest.TestCase):
    def twins(self, chance, scheme):
        faulty = random_faulty(chance, scheme)
        randomness = random_numbers(chance, scheme, 40 * len(scheme[3]) ** 2)
        return Twins(scheme, faulty, randomness, random_observers(chance, scheme, faulty))

    def play(self, chance, twins, most, multiplies):
        products = changes = 0
        for _ in range(most):
            keys = twins.first.stored_keys()
            word, arguments = random_operation(chance, twins.scheme, keys, multiplies and products < 2)
            if twins.shows_more(word, arguments):
                continue
            products += word == "multiply"
            others = arguments
            if word == "store" and arguments[0] not in twins.observers:
                others = arguments[:2] + (chance.randrange(twins.scheme[0]),)
                changes += others != arguments
            overrides = random_overrides(chance, twins.first, twins.scheme, twins.faulty, (word, arguments), 0.3)
            twins.run(word, arguments, others, overrides)
            self.assertEqual(*twins.views())
            for query in ("exposed", "disputes", "incident_count"):
                self.assertEqual(getattr(twins.first, query)(), getattr(twins.second, query)())
        return changes

    def test_random_cases(self):
        changes = 0
        for seed in range(60):
            chance = random.Random(seed)
            multiplies = chance.random() < 0.5
            with self.subTest(seed=seed):
                twins = self.twins(chance, random_scheme(chance, multiplies))
                changes += self.play(chance, twins, 8, multiplies)
        self.assertGreater(changes, 30)

    def test_multiplications(self):
        changes = 0
        for seed in range(10):
            chance = random.Random(seed)
            with self.subTest(seed=seed):
                twins = self.twins(chance, chance.choice((FOUR, DENSE)))
                changes += self.play(chance, twins, 5, True)
        self.assertGreater(changes, 3)


if __name__ == "__main__":
    unittest.main()
