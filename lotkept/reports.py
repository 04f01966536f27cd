"""Reports on shares: ascending tuples of (holder, value) pairs for some holders of a share, one for each."""

from lotkept.errors import NoCorrectValue
from lotkept.party_sets import is_ascending, is_subset
from lotkept.schemes import holders, is_value
from lotkept.states import active_holders


def are_reports(scheme, index, thing):
    """Return whether any value is an ascending tuple of reports on a share, one for each of some holders."""
    if not isinstance(thing, tuple) or not all(_is_report(scheme, index, entry) for entry in thing):
        return False
    return is_ascending([holder for holder, _ in thing])


def correct_value(scheme, index, reports):
    """Return the value of which all holders that did not report it are in one fault set."""
    faults = scheme[4]
    for _, value in reports:
        others = holders_without(holders(scheme, index), reports, value)
        if any(is_subset(others, fault) for fault in faults):
            return value
    raise NoCorrectValue("no value is reported by all holders outside of one fault set")


def holders_without(names, reports, value):
    """Return those of some holders that did not report this value."""
    return [holder for holder in names if (holder, value) not in reports]


def accepted_reports(scheme, state, index, mail, recipient, parts):
    """Return the reports on a share that the recipient accepts, in messages that begin with these parts."""
    numbers = [(holder, mail.accepted(holder, recipient, parts)) for holder in active_holders(scheme, state, index)]
    return tuple((holder, number) for holder, number in numbers if number is not None)


def settle(scheme, state, index, mail, parts):
    """Return the correct value of what the holders of a share had to broadcast, and who did not broadcast it."""
    reports = accepted_reports(scheme, state, index, mail, "", parts)
    correct = correct_value(scheme, index, reports)
    return correct, holders_without(active_holders(scheme, state, index), reports, correct)


def _is_report(scheme, index, thing):
    if not isinstance(thing, tuple) or len(thing) != 2:
        return False
    return thing[0] in holders(scheme, index) and is_value(scheme, thing[1])
