"""The public state (exposed, disputes): what everybody knows about the parties.

exposed is a party set; disputes is an ascending tuple of pairs of parties, the lesser name first.
"""

from lotkept.faults import identify_faulty
from lotkept.party_sets import is_ascending, is_party_set, is_subset, union
from lotkept.schemes import all_parties, holders


def is_state(scheme, exposed, disputes):
    """Return whether any two values are a public state."""
    if not is_party_set(exposed) or not is_subset(exposed, all_parties(scheme)) or not isinstance(disputes, tuple):
        return False
    return all(_is_dispute(scheme, pair) for pair in disputes) and is_ascending(disputes)


def pair_of(first, second):
    """Return the pair of two parties as it stands among the disputes."""
    return (min(first, second), max(first, second))


def are_in_dispute(state, first, second):
    """Return whether two parties are in dispute."""
    _, disputes = state
    return pair_of(first, second) in disputes


def active_holders(scheme, state, index):
    """Return the holders of a share that are not exposed."""
    exposed, _ = state
    return tuple(server for server in holders(scheme, index) if server not in exposed)


def state_after(scheme, state, newly_exposed, new_disputes):
    """Return the public state after an operation that led to this."""
    exposed, disputes = state
    known = tuple(sorted(set(list(disputes) + list(new_disputes))))
    return identify_faulty(scheme, union((exposed, newly_exposed)), known), known


def _is_dispute(scheme, thing):
    if not is_party_set(thing) or len(thing) != 2 or not is_subset(thing, all_parties(scheme)):
        return False
    return any(party in scheme[1] for party in thing)
