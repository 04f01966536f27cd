"""Which parties the public state shows to be faulty."""

from lotkept.party_sets import is_subset, union


def identify_faulty(scheme, exposed, disputes):
    """Return the party set of all exposed parties and all certainly faulty servers."""
    servers = scheme[1]
    certain = [server for server in servers if not _may_be_honest(scheme, server, exposed, disputes)]
    return union((exposed, certain))


def _may_be_honest(scheme, server, exposed, disputes):
    """Return whether some fault set explains the public state without this server."""
    faults = scheme[4]
    return any(_explains(scheme, _without(fault, server), exposed, disputes) for fault in faults)


def _without(names, left_out):
    return [name for name in names if name != left_out]


def _explains(scheme, names, exposed, disputes):
    servers = scheme[1]
    if not is_subset([party for party in exposed if party in servers], names):
        return False
    # Any client may be faulty without further ado, so a dispute with one needs no faulty server.
    between = [pair for pair in disputes if is_subset(pair, servers)]
    return all(first in names or second in names for first, second in between)
