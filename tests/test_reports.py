import itertools
import random
import unittest

from lotkept.errors import LotkeptError, NoCorrectValue
from lotkept.reports import correct_value
from lotkept.schemes import holders
from tests.forgeries import random_scheme
from tests.helpers import FOUR, THREE

# Share 0 has the holders c, d, e; two of them may be faulty together, but only c and d.
UNEVEN = (5, ("a", "b", "c", "d", "e"), ("p",), (("a", "b"), ("c", "d")), (("a",), ("c", "d")))


def expected(scheme, index, reports):
    """The correct value by its definition, tried for every value of the scheme; None if there is none."""
    found = []
    for value in range(scheme[0]):
        others = {holder for holder in holders(scheme, index)} - {holder for holder, told in reports if told == value}
        if any(others <= set(fault) for fault in scheme[4]):
            found.append(value)
    if len(found) > 1:
        raise AssertionError("two correct values")
    return found[0] if found else None


def answer(scheme, index, reports):
    try:
        return correct_value(scheme, index, reports)
    except NoCorrectValue:
        return None


class CorrectValueTest(unittest.TestCase):
    def test_by_position_and_by_name(self):
        reports = (("b", 4), ("c", 4), ("d", 5))
        self.assertEqual(correct_value(FOUR, 0, reports), 4)
        self.assertEqual(correct_value(scheme=FOUR, index=0, reports=reports), 4)
        with self.assertRaises(NoCorrectValue) as caught:
            correct_value(FOUR, reports=(("b", 4), ("c", 5)), index=0)
        self.assertIsInstance(caught.exception, LotkeptError)

    def test_no_reports(self):
        for index in range(4):
            self.assertIsNone(answer(FOUR, index, ()))
        self.assertIsNone(answer(THREE, 0, ()))

    def test_all_alike(self):
        for value in range(7):
            self.assertEqual(correct_value(FOUR, 1, (("a", value), ("c", value), ("d", value))), value)
            self.assertEqual(correct_value(THREE, 1, (("a", value), ("c", value))), value)

    def test_without_fault_sets_all_holders_must_report(self):
        self.assertIsNone(answer(THREE, 0, (("b", 4),)))
        self.assertIsNone(answer(THREE, 0, (("b", 4), ("c", 5))))

    def test_one_holder_deviates_or_is_silent(self):
        self.assertEqual(correct_value(FOUR, 0, (("b", 5), ("c", 4), ("d", 4))), 4)
        self.assertEqual(correct_value(FOUR, 0, (("b", 4), ("c", 5), ("d", 4))), 4)
        self.assertEqual(correct_value(FOUR, 0, (("c", 4), ("d", 4))), 4)
        self.assertEqual(correct_value(FOUR, 3, (("a", 0), ("c", 0))), 0)

    def test_deviations_beyond_one_fault_set(self):
        self.assertIsNone(answer(FOUR, 0, (("b", 1), ("c", 2), ("d", 3))))
        self.assertIsNone(answer(FOUR, 0, (("b", 4),)))
        self.assertIsNone(answer(FOUR, 0, (("b", 4), ("d", 5))))

    def test_a_fault_set_outvotes_the_majority(self):
        self.assertEqual(correct_value(UNEVEN, 0, (("c", 3), ("d", 3), ("e", 1))), 1)
        self.assertEqual(correct_value(UNEVEN, 0, (("c", 2), ("d", 3), ("e", 1))), 1)
        self.assertEqual(correct_value(UNEVEN, 0, (("e", 1),)), 1)
        # Without e, no fault set has all those who did not report the value.
        self.assertIsNone(answer(UNEVEN, 0, (("c", 3), ("d", 3))))
        self.assertEqual(correct_value(UNEVEN, 1, (("a", 0), ("b", 4), ("e", 4))), 4)
        self.assertIsNone(answer(UNEVEN, 1, (("a", 4), ("b", 4), ("e", 0))))

    def test_all_reports_of_the_example_scheme(self):
        scheme = (3,) + FOUR[1:]
        for index in range(4):
            for told in itertools.product((None, 0, 1, 2), repeat=3):
                reports = tuple((name, value) for name, value in zip(holders(scheme, index), told) if value is not None)
                self.assertEqual(answer(scheme, index, reports), expected(scheme, index, reports), reports)

    def test_random_schemes(self):
        chance = random.Random(7)
        values = 0
        for _ in range(300):
            scheme = random_scheme(chance, False)
            index = chance.randrange(len(scheme[3]))
            for _ in range(20):
                usual = chance.randrange(scheme[0])
                told = [(name, chance.choice((usual, usual, usual, chance.randrange(scheme[0]), None)))
                        for name in holders(scheme, index)]
                reports = tuple(row for row in told if row[1] is not None)
                self.assertEqual(answer(scheme, index, reports), expected(scheme, index, reports), (scheme, reports))
                values += answer(scheme, index, reports) is not None
        self.assertGreater(values, 1000)


if __name__ == "__main__":
    unittest.main()
