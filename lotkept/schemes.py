"""Schemes: who serves, who asks, which servers observe together and which may be faulty.

A scheme is a tuple (prime, servers, clients, observers, faults).
"""

from lotkept.errors import Conflict
from lotkept.integers import is_integer, is_prime
from lotkept.party_sets import is_ascending, is_party_set, is_subset, union

LARGEST_PRIME = 997


def is_scheme(thing):
    """Return whether any value is a scheme, whether it supports storage or not."""
    if not isinstance(thing, tuple) or len(thing) != 5:
        return False
    prime, servers, clients, observers, faults = thing
    if not _is_modulus(prime) or not _are_parties(servers, clients):
        return False
    if not _is_family(observers, servers) or not _is_family(faults, servers):
        return False
    return all(_is_within(fault, observers) for fault in faults)


def require_storage(scheme):
    """Return None, or raise Conflict if an observer set and two fault sets contain all servers."""
    _, servers, _, observers, faults = scheme
    most = _largest_size(faults)
    for observed in observers:
        for at, fault in enumerate(faults):
            _require_gap(servers, observed, fault, faults[at:], most)


def require_multiplication(scheme):
    """Return None, or raise Conflict if two observer sets and a fault set contain all servers."""
    _, servers, _, observers, faults = scheme
    most = _largest_size(faults)
    for at, observed in enumerate(observers):
        for other in observers[at:]:
            _require_gap(servers, observed, other, faults, most)


def holders(scheme, index):
    """Return the party set of the holders of a share."""
    _, servers, _, observers, _ = scheme
    return tuple(server for server in servers if server not in observers[index])


def all_parties(scheme):
    """Return the party set of all servers and clients."""
    return union((scheme[1], scheme[2]))


def share_count(scheme):
    """Return how many shares a value has: one for each observer set."""
    return len(scheme[3])


def is_value(scheme, thing):
    """Return whether any value is a value of the scheme."""
    return is_integer(thing) and 0 <= thing < scheme[0]


def are_parties_within(scheme, thing, sets):
    """Return whether any value is a party set of servers and clients whose servers are within one of the sets."""
    if not is_party_set(thing) or not is_subset(thing, all_parties(scheme)):
        return False
    return _is_within([party for party in thing if party in scheme[1]], sets)


def _is_modulus(thing):
    return is_integer(thing) and thing <= LARGEST_PRIME and is_prime(thing)


def _are_parties(servers, clients):
    if not is_party_set(servers) or not is_party_set(clients):
        return False
    return len(servers) >= 2 and len(clients) >= 1 and not any(client in servers for client in clients)


def _is_family(thing, servers):
    """Return whether any value is a tuple of sets of servers as a scheme may have them."""
    if not isinstance(thing, tuple) or len(thing) == 0:
        return False
    if not all(is_party_set(entry) and is_subset(entry, servers) for entry in thing):
        return False
    return is_ascending(thing) and not any(_is_within_larger(entry, thing) for entry in thing)


def _is_within_larger(names, sets):
    # In an ascending tuple no set occurs twice, so a set can only be within a larger one.
    return any(len(names) < len(entry) and is_subset(names, entry) for entry in sets)


def _is_within(names, sets):
    return any(is_subset(names, entry) for entry in sets)


def _largest_size(sets):
    return max(len(names) for names in sets)


def _require_gap(servers, first, second, thirds, most):
    """Raise Conflict for the first third set, of at most `most` names, that adds what the other two lack."""
    # A scheme beyond the limits may have so many triples that those with too few names must not be searched.
    if len(first) + len(second) + most < len(servers):
        return
    missing = [server for server in servers if server not in first and server not in second]
    for third in thirds:
        if is_subset(missing, third):
            raise Conflict((first, second, third))
