"""Schemes and small helpers that many tests use."""

import itertools

from lotkept.networks import Network

TWO = (7, ("a", "b"), ("p",), ((),), ((),))
THREE = (7, ("a", "b", "c"), ("p", "q"), (("a",), ("b",), ("c",)), ((),))
SINGLES = (("a",), ("b",), ("c",), ("d",))
FOUR = (7, ("a", "b", "c", "d"), ("p", "q"), SINGLES, SINGLES)
FIVE_SINGLES = SINGLES + (("e",),)
FIVE = (11, ("a", "b", "c", "d", "e"), ("p", "q"), FIVE_SINGLES, FIVE_SINGLES)
# One share alone, held by all.
ONE_SHARE = (7, ("a", "b", "c", "d"), ("p", "q"), ((),), ((),))


def subsets(names):
    return [row for many in range(len(names) + 1) for row in itertools.combinations(names, many)]


def numbers_for(scheme, many=400):
    """Random numbers for every party, all different from one another."""
    parties = sorted(scheme[1] + scheme[2])
    return tuple((party, tuple(range(at, at + 3 * many, 3))) for at, party in enumerate(parties))


def zeros_for(scheme, many=400):
    return tuple((party, (0,) * many) for party in sorted(scheme[1] + scheme[2]))


def network_of(scheme, faulty=(), randomness=None):
    return Network(scheme, faulty, numbers_for(scheme) if randomness is None else randomness)


def sent(network, operation, turn, sender=None):
    """The messages (sender, recipient, payload) of one round, perhaps of one sender only."""
    rows = [row[2:] for row in network.messages() if row[:2] == (operation, turn)]
    return [row for row in rows if sender in (None, row[0])]


def state_of(network, scheme):
    """Everything that the queries tell, as a text that tells True from 1."""
    parties = sorted(scheme[1] + scheme[2])
    keys = network.stored_keys()
    return repr((
        network.messages(), keys, len(network), [network.expected_value(key) for key in keys],
        [network.shares_at(server, key) for key in keys for server in scheme[1]],
        network.exposed(), network.disputes(), network.round_count(), network.operation_count(),
        [network.remaining(party) for party in parties], network.incident_count(),
        [network.view(observers) for observers in scheme[3] + tuple((client,) for client in scheme[2])],
    ))


def outcome(call):
    """The class of what a call raises with its attributes, or its result."""
    try:
        return "returned", call()
    except Exception as error:
        return type(error).__name__, vars(error)
