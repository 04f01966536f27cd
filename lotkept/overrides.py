"""Overrides: what faulty parties send in place of what is required of them.

Overrides are a tuple of entries (round, party, messages), where messages are (recipient, payload) pairs.
"""

from lotkept.any_values import copied
from lotkept.integers import is_integer
from lotkept.schemes import all_parties


def are_overrides(scheme, faulty, thing):
    """Return whether any value is a tuple of overrides of these faulty parties."""
    if not isinstance(thing, tuple):
        return False
    if not all(_is_entry(scheme, faulty, entry) for entry in thing):
        return False
    return len({(turn, party) for turn, party, _ in thing}) == len(thing)


def forged_messages(overrides):
    """Return, for each round and party with an entry, the messages (sender, recipient, payload)."""
    return {
        # The caller may change its lists and dicts after the call.
        (turn, party): [(party, recipient, copied(payload)) for recipient, payload in messages]
        for turn, party, messages in overrides
    }


def _is_entry(scheme, faulty, thing):
    if not isinstance(thing, tuple) or len(thing) != 3:
        return False
    turn, party, messages = thing
    if not is_integer(turn) or turn < 1 or party not in faulty or not isinstance(messages, tuple):
        return False
    recipients = all_parties(scheme) + ("",)
    return all(_is_message(recipients, message) for message in messages)


def _is_message(recipients, thing):
    return isinstance(thing, tuple) and len(thing) == 2 and thing[0] in recipients
