"""The public state (exposed, disputes): what everybody knows about the parties.

exposed is a party set; disputes is an ascending tuple of pairs of parties, the lesser name first.
"""

from lotkept.faults import identify_faulty
from lotkept.party_sets import union
from lotkept.schemes import holders


def pair_of(first, second):
    """Return the pair of two parties as it stands among the disputes."""
    return (min(first, second), max(first, second))


def are_in_dispute(state, first, second):
    """Return whether two parties are in dispute."""
    _, disputes = state
    return pair_of(first, second) in disputes


def active_holders(scheme, state, index):
    """Return the holders of a share that are not exposed."""
    exposed, _ = state
    return tuple(server for server in holders(scheme, index) if server not in exposed)


def state_after(scheme, state, newly_exposed, new_disputes):
    """Return the public state after an operation that led to this."""
    exposed, disputes = state
    known = tuple(sorted(set(list(disputes) + list(new_disputes))))
    return identify_faulty(scheme, union((exposed, newly_exposed)), known), known
