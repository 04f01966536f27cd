import itertools
import unittest

from lotkept.errors import Conflict
from lotkept.schemes import holders, is_scheme, require_multiplication, require_storage

SCHEME = (7, ("a", "b", "c"), ("p", "q"), (("a",), ("b",), ("c",)), ((),))
FOUR = (7, ("a", "b", "c", "d"), ("p", "q"), (("a",), ("b",), ("c",), ("d",)), (("a",), ("b",), ("c",), ("d",)))

PRIMES = [
    number for number in range(2, 998)
    if not any(number == low * high for low in range(2, 32) for high in range(low, number // low + 1))
]


def subsets(names):
    """All party sets of some ascending names, ascending."""
    return sorted(row for many in range(len(names) + 1) for row in itertools.combinations(names, many))


def families(names, most):
    """All antichains of party sets of the names, each ascending, none empty."""
    found = []
    for many in range(1, most + 1):
        for row in itertools.combinations(subsets(names), many):
            if not any(set(low) < set(high) for low in row for high in row):
                found.append(row)
    return found


def changed(at, part):
    """The scheme of the examples with another part."""
    return SCHEME[:at] + (part,) + SCHEME[at + 1:]


def sets_fit(observers, faults, servers):
    """What the document asks of observer and fault sets, in other words than the program's."""
    for family in (observers, faults):
        if len(family) == 0 or list(family) != sorted(family):
            return False
        for names in family:
            if list(names) != sorted(set(names)) or not set(names) <= set(servers):
                return False
        for first, second in itertools.permutations(family, 2):
            if set(first) <= set(second):
                return False
    return all(any(set(fault) <= set(names) for names in observers) for fault in faults)


def first_cover(scheme, multiplication):
    """The first triple that contains all servers, among all triples sorted by their indexes, or None."""
    _, servers, _, observers, faults = scheme
    families_of = (observers, observers, faults) if multiplication else (observers, faults, faults)
    triples = []
    for one, two, three in itertools.product(*[range(len(family)) for family in families_of]):
        if (two >= one) if multiplication else (three >= two):
            triples.append((one, two, three))
    for indexes in sorted(triples):
        sets = tuple(family[at] for family, at in zip(families_of, indexes))
        if set().union(*sets) == set(servers):
            return sets
    return None


def conflict_of(require, scheme):
    """The sets of the Conflict that is raised, or None."""
    try:
        answer = require(scheme)
    except Conflict as error:
        return error.sets
    if answer is not None:
        raise AssertionError(answer)
    return None


class SchemeTest(unittest.TestCase):
    def test_example(self):
        self.assertEqual((is_scheme(SCHEME), is_scheme((4,) + SCHEME[1:])), (True, False))
        self.assertIs(is_scheme(thing=SCHEME), True)
        self.assertIs(is_scheme(FOUR), True)
        self.assertIs(is_scheme((7, ("a", "b"), ("p",), ((),), ((),))), True)

    def test_schemes_that_support_nothing(self):
        self.assertIs(is_scheme((7, ("a", "b"), ("p",), (("a",), ("b",)), (("a",), ("b",)))), True)
        self.assertIs(is_scheme((2, ("a", "b"), ("p",), (("a", "b"),), (("a", "b"),))), True)

    def test_primes(self):
        self.assertEqual((PRIMES[0], PRIMES[-1], len(PRIMES)), (2, 997, 168))
        for number in range(-2, 1011):
            self.assertIs(is_scheme(changed(0, number)), number in PRIMES, number)
        for number in (1013, 10007, 10**40 - 1, -7, -997, 10**30 + 57):
            self.assertIs(is_scheme(changed(0, number)), False, number)

    def test_the_prime_is_an_integer(self):
        for thing in (True, False, None, "7", "", (7,), [7], {7: 7}, ()):
            self.assertIs(is_scheme(changed(0, thing)), False, thing)

    def test_servers(self):
        for servers in (("a", "b", "c"), ("a", "b", "c", "d", "e"), ("a", "ab", "b", "c"), ("a", "b", "c", "zzzzzz")):
            self.assertIs(is_scheme(changed(1, servers)), True, servers)
        bad = (
            (), ("a",), ("a", "b"), ("a", "c", "b"), ("a", "b", "c", "c"), ("a", "a", "b", "c"), ["a", "b", "c"],
            ("A", "a", "b", "c"), ("a", "b", "c", "seventh"), ("a", "b", "c", 1), ("", "a", "b", "c"), "abc",
            None, True, {"a": 1, "b": 2, "c": 3}, ("a", "b", ("c",)),
        )
        for servers in bad:
            self.assertIs(is_scheme(changed(1, servers)), False, servers)

    def test_at_least_two_servers(self):
        for servers in ((), ("a",)):
            self.assertIs(is_scheme((7, servers, ("p",), ((),), ((),))), False, servers)
        for servers in (("a", "b"), ("a", "b", "c")):
            self.assertIs(is_scheme((7, servers, ("p",), ((),), ((),))), True, servers)

    def test_clients(self):
        for clients in (("p",), ("ab", "p"), ("d", "e", "f", "g"), ("abc", "zzzzzz")):
            self.assertIs(is_scheme(changed(2, clients)), True, clients)
        bad = (
            (), ("q", "p"), ("p", "p"), ["p", "q"], ("P", "q"), ("p", "seventh"), ("p", 1), ("",), "pq",
            None, False, {"p": 1}, (("p",),),
        )
        for clients in bad:
            self.assertIs(is_scheme(changed(2, clients)), False, clients)

    def test_no_client_is_a_server(self):
        for clients in (("a",), ("b",), ("c",), ("a", "p"), ("c", "p"), ("b", "p", "q"), ("a", "b", "c")):
            self.assertIs(is_scheme(changed(2, clients)), False, clients)

    def test_observer_sets(self):
        good = (
            (("a",),), (("c",),), (("a", "b"),), (("a", "b"), ("a", "c")), (("a", "b", "c"),), ((),),
            (("a",), ("b", "c")), (("a", "b"), ("a", "c"), ("b", "c")),
        )
        for observers in good:
            self.assertIs(is_scheme(changed(3, observers)), True, observers)
        bad = (
            (), ("a", "b"), (("b",), ("a",)), (("a",), ("a",)), (("a",), ("a", "b")), ((), ("a",)), (("p",),),
            (("d",),), (("a", "d"),), (("b", "a"),), (("a", "a"),), [("a",)], (["a"],), (("a", 1),), ("a",), None, True,
            "a",
            (("a", "b"), ("b",)), (("a",), ("a",), ("b",)), {("a",): 1}, (("a",), None), ((), ()), (("A",),),
        )
        for observers in bad:
            self.assertIs(is_scheme(changed(3, observers)), False, observers)

    def test_fault_sets(self):
        good = (((),), (("a",),), (("c",),), (("a",), ("b",)), (("a",), ("b",), ("c",)))
        for faults in good:
            self.assertIs(is_scheme(changed(4, faults)), True, faults)
        bad = (
            (), ((), ("a",)), (("b",), ("a",)), (("a",), ("a",)), (("a", "b"),), (("d",),), (("p",),), [()], ([],),
            [("a",)], (["a"],), "a", ("a",), None, False, {}, {(): 1}, (("a",), None), (("a",), ("b", "c")), ((), ()),
        )
        for faults in bad:
            self.assertIs(is_scheme(changed(4, faults)), False, faults)

    def test_no_set_within_another_one_of_the_same_tuple(self):
        servers = ("a", "b", "c", "d")
        every = (servers,)
        bad = ((("a",), ("a", "b")), (("a", "b"), ("b",)), (("a", "b", "c"), ("a", "c")), ((), ("a",)),
               (("a", "b"), ("a", "b", "c")), (("a",), ("b",), ("b", "c")), (("a", "b", "d"), ("a", "d"), ("c",)))
        for family in bad:
            self.assertIs(is_scheme((7, servers, ("p",), family, ((),))), False, family)
            self.assertIs(is_scheme((7, servers, ("p",), every, family)), False, family)
        good = ((("a", "b"), ("a", "c")), (("a", "b", "c"), ("a", "d")), (("a",), ("b", "c", "d")))
        for family in good:
            self.assertIs(is_scheme((7, servers, ("p",), family, ((),))), True, family)
            self.assertIs(is_scheme((7, servers, ("p",), every, family)), True, family)

    def test_every_fault_set_within_some_observer_set(self):
        servers = ("a", "b", "c", "d")
        observers = (("a", "b"), ("c",))
        for faults in ((("a",),), (("a", "b"),), (("c",),), (("a",), ("b",), ("c",)), (("a", "b"), ("c",)), ((),)):
            self.assertIs(is_scheme((7, servers, ("p",), observers, faults)), True, faults)
        for faults in ((("d",),), (("a", "c"),), (("a",), ("d",)), (("a", "b", "c"),), (("a",), ("b", "c"))):
            self.assertIs(is_scheme((7, servers, ("p",), observers, faults)), False, faults)

    def test_prefixes_are_other_names(self):
        self.assertIs(is_scheme((7, ("a", "b"), ("ab",), (("a",),), ((),))), True)
        self.assertIs(is_scheme((7, ("ab", "b"), ("a",), (("a",),), ((),))), False)
        self.assertIs(is_scheme((7, ("a", "ab"), ("b",), (("a",), ("ab",)), (("a",), ("ab",)))), True)
        self.assertIs(is_scheme((7, ("a", "ab"), ("b",), (("a",),), (("ab",),))), False)

    def test_missing_additional_and_exchanged_fields(self):
        for many in range(5):
            self.assertIs(is_scheme(SCHEME[:many]), False)
            self.assertIs(is_scheme(SCHEME[5 - many:]), False)
        for at in range(5):
            self.assertIs(is_scheme(SCHEME[:at] + SCHEME[at + 1:]), False)
        self.assertIs(is_scheme(SCHEME + ((),)), False)
        self.assertIs(is_scheme(SCHEME + (None,)), False)
        self.assertIs(is_scheme(SCHEME + SCHEME), False)
        for row in itertools.permutations(range(5)):
            if row != (0, 1, 2, 3, 4):
                self.assertIs(is_scheme(tuple(SCHEME[at] for at in row)), False, row)

    def test_lists_and_dicts_in_place_of_tuples(self):
        self.assertIs(is_scheme(list(SCHEME)), False)
        self.assertIs(is_scheme(dict(enumerate(SCHEME))), False)
        for at in range(1, 5):
            self.assertIs(is_scheme(changed(at, list(SCHEME[at]))), False)
            self.assertIs(is_scheme(changed(at, {part: True for part in SCHEME[at]})), False)

    def test_all_short_tuples_of_sets_of_two_servers(self):
        servers = ("a", "b")
        rows = [row for many in range(4) for row in itertools.product(subsets(servers), repeat=many)]
        for observers in rows:
            for faults in rows:
                expected = sets_fit(observers, faults, servers)
                self.assertIs(is_scheme((5, servers, ("p",), observers, faults)), expected, (observers, faults))

    def test_all_ascending_pairs_of_sets_of_three_servers(self):
        servers = ("a", "b", "c")
        rows = [row for many in (1, 2) for row in itertools.product(subsets(servers), repeat=many)]
        for observers in rows:
            for faults in rows:
                expected = sets_fit(observers, faults, servers)
                self.assertIs(is_scheme((5, servers, ("p",), observers, faults)), expected, (observers, faults))

    def test_beyond_the_limits_a_scheme_is_still_a_scheme(self):
        servers = tuple(sorted(first + second for first in "abcdefghij" for second in "klmnopqrst"))
        single = tuple((server,) for server in servers)
        clients = tuple("uvwxyz")
        self.assertIs(is_scheme((997, servers, clients, single, single)), True)
        self.assertIs(is_scheme((997, servers, clients, single, single[:7])), True)
        self.assertIs(is_scheme((997, servers, clients, single[:7], single)), False)
        self.assertIs(is_scheme((997, servers, clients, (servers,), single)), True)
        self.assertIsNone(conflict_of(require_storage, (997, servers, clients, single, single)))
        self.assertIsNone(conflict_of(require_multiplication, (997, servers, clients, single, single)))


class RequireTest(unittest.TestCase):
    def test_examples(self):
        with self.assertRaises(Conflict) as caught:
            require_storage((7, ("a", "b"), ("p",), (("a",), ("b",)), (("a",), ("b",))))
        self.assertEqual(caught.exception.sets, (("a",), ("a",), ("b",)))
        with self.assertRaises(Conflict) as caught:
            require_multiplication((7, ("a", "b"), ("p",), (("a",), ("b",)), ((),)))
        self.assertEqual(caught.exception.sets, (("a",), ("b",), ()))

    def test_by_name(self):
        self.assertIsNone(require_storage(scheme=SCHEME))
        self.assertIsNone(require_multiplication(scheme=SCHEME))
        with self.assertRaises(Conflict):
            require_storage(scheme=(7, ("a", "b"), ("p",), (("a", "b"),), ((),)))
        with self.assertRaises(Conflict):
            require_multiplication(scheme=(7, ("a", "b"), ("p",), (("a", "b"),), ((),)))

    def check(self, scheme):
        text = repr(scheme)
        for require, multiplication in ((require_storage, False), (require_multiplication, True)):
            expected = first_cover(scheme, multiplication)
            self.assertEqual(conflict_of(require, scheme), expected, (require, scheme))
            self.assertEqual(conflict_of(require, scheme), expected, (require, scheme))
        self.assertEqual(repr(scheme), text)

    def test_both_one_or_none(self):
        storage = (7, ("a", "b"), ("p",), (("a",), ("b",)), ((),))
        none = (7, ("a", "b"), ("p",), (("a",), ("b",)), (("a",), ("b",)))
        for scheme, stores, multiplies in ((SCHEME, 1, 1), (FOUR, 1, 1), (storage, 1, 0), (none, 0, 0)):
            self.assertIs(is_scheme(scheme), True)
            self.assertEqual(conflict_of(require_storage, scheme) is None, stores == 1, scheme)
            self.assertEqual(conflict_of(require_multiplication, scheme) is None, multiplies == 1, scheme)

    def test_multiplication_implies_storage(self):
        # Every fault set is within an observer set, so two observer sets reach as far as it with another one.
        for scheme in self.schemes_of(("a", "b", "c")):
            if conflict_of(require_storage, scheme) is not None:
                self.assertIsNotNone(conflict_of(require_multiplication, scheme), scheme)

    def test_the_two_sets_may_be_the_same_one(self):
        whole = (7, ("a", "b"), ("p",), (("a", "b"),), (("a", "b"),))
        self.assertEqual(conflict_of(require_storage, whole), (("a", "b"),) * 3)
        self.assertEqual(conflict_of(require_multiplication, whole), (("a", "b"),) * 3)
        # Here only one set, taken twice, covers what the other one leaves.
        scheme = (7, ("a", "b", "c"), ("p",), (("a",), ("b", "c")), (("a",),))
        self.assertEqual(conflict_of(require_storage, scheme), (("b", "c"), ("a",), ("a",)))
        scheme = (7, ("a", "b", "c"), ("p",), (("a", "b"), ("c",)), (("c",),))
        self.assertEqual(conflict_of(require_storage, scheme), (("a", "b"), ("c",), ("c",)))
        self.assertEqual(conflict_of(require_multiplication, scheme), (("a", "b"), ("a", "b"), ("c",)))

    def test_the_first_tuple_of_several(self):
        # The first set decides before the second one, and the second one before the third one.
        scheme = (7, ("a", "b", "c"), ("p",), (("a", "b"), ("a", "c"), ("b", "c")), (("a",), ("b",), ("c",)))
        self.assertEqual(conflict_of(require_storage, scheme), (("a", "b"), ("a",), ("c",)))
        self.assertEqual(conflict_of(require_multiplication, scheme), (("a", "b"), ("a", "b"), ("c",)))
        scheme = (7, ("a", "b", "c"), ("p",), (("a", "b"), ("a", "c"), ("b", "c")), (("b",), ("c",)))
        self.assertEqual(conflict_of(require_storage, scheme), (("a", "b"), ("b",), ("c",)))
        scheme = (7, ("a", "b", "c"), ("p",), (("a", "b"), ("a", "c"), ("b", "c")), (("a",), ("b",)))
        self.assertEqual(conflict_of(require_storage, scheme), (("a", "c"), ("a",), ("b",)))
        self.assertEqual(conflict_of(require_multiplication, scheme), (("a", "b"), ("a", "c"), ("a",)))

    def schemes_of(self, servers):
        rows = families(servers, 6)
        for observers in rows:
            for faults in rows:
                scheme = (5, servers, ("p",), observers, faults)
                if sets_fit(observers, faults, servers):
                    yield scheme

    def test_all_schemes_of_two_and_three_servers(self):
        for servers in (("a", "b"), ("a", "b", "c")):
            many = 0
            for scheme in self.schemes_of(servers):
                self.assertIs(is_scheme(scheme), True)
                self.check(scheme)
                many += 1
            self.assertGreater(many, 10)

    def test_schemes_of_four_servers(self):
        servers = ("a", "b", "c", "d")
        rows = families(servers, 6)
        for at, (observers, faults) in enumerate(itertools.product(rows, rows)):
            if at % 3 == 0 and sets_fit(observers, faults, servers):
                self.check((5, servers, ("p",), observers, faults))

    def test_schemes_of_five_servers(self):
        servers = ("a", "b", "c", "d", "e")
        ones = tuple((server,) for server in servers)
        twos = tuple(itertools.combinations(servers, 2))
        for observers in (ones, twos[:6], twos[4:], (("a", "b"), ("c", "d"), ("e",)), (("a", "b", "c"), ("d", "e"))):
            for faults in (((),), ones, ones[:4], ones[1:], twos[:4], twos[6:], (("a", "b"), ("c",), ("d",))):
                if sets_fit(observers, faults, servers):
                    self.check((5, servers, ("p",), observers, faults))

    def test_prefixes_are_other_names(self):
        self.check((7, ("a", "ab", "b"), ("p",), (("a",), ("ab",), ("b",)), ((),)))
        self.check((7, ("a", "ab"), ("p",), (("a",),), (("a",),)))


class HoldersTest(unittest.TestCase):
    def test_example(self):
        self.assertEqual(holders(SCHEME, 0), ("b", "c"))
        self.assertEqual(holders(scheme=SCHEME, index=0), ("b", "c"))
        self.assertEqual(holders(index=0, scheme=SCHEME), ("b", "c"))

    def test_each_index(self):
        self.assertEqual([holders(SCHEME, at) for at in range(3)], [("b", "c"), ("a", "c"), ("a", "b")])
        expected = [("b", "c", "d"), ("a", "c", "d"), ("a", "b", "d"), ("a", "b", "c")]
        self.assertEqual([holders(FOUR, at) for at in range(4)], expected)

    def test_an_empty_observer_set(self):
        self.assertEqual(holders((7, ("a", "b"), ("p",), ((),), ((),)), 0), ("a", "b"))

    def test_several_servers_in_an_observer_set(self):
        observers = (("a", "c"), ("a", "d", "e"), ("b", "c", "d"))
        scheme = (7, ("a", "b", "c", "d", "e"), ("p",), observers, (("a",), ("c",)))
        answers = [holders(scheme, at) for at in range(3)]
        self.assertEqual(answers, [("b", "d", "e"), ("b", "c"), ("a", "e")])
        for answer in answers:
            self.assertIs(type(answer), tuple)

    def test_the_fault_sets_and_clients_do_not_matter(self):
        for faults in (((),), (("a",),), (("a",), ("b",), ("c",))):
            scheme = (7, ("a", "b", "c"), ("p",), (("a",), ("b",), ("c",)), faults)
            self.assertEqual(holders(scheme, 1), ("a", "c"))

    def test_prefixes_are_other_names(self):
        scheme = (7, ("a", "ab", "b"), ("p",), (("a",), ("ab",)), ((),))
        self.assertEqual([holders(scheme, at) for at in range(2)], [("ab", "b"), ("a", "b")])


if __name__ == "__main__":
    unittest.main()
