"""The messages (sender, recipient, payload) of a round, as their recipients read them."""

from lotkept.integers import is_integer
from lotkept.schemes import is_value


class Mail:
    """The messages of one round; the recipient of a broadcast is the empty name."""

    def __init__(self, scheme, messages):
        self._scheme = scheme
        self._endings = {}
        for sender, recipient, payload in messages:
            if isinstance(payload, tuple) and len(payload) > 0:
                slot = _slot(sender, recipient, payload[:-1])
                self._endings.setdefault(slot, []).append(payload[-1])

    def accepted(self, sender, recipient, parts):
        """Return the number behind these parts that is accepted, or None."""
        endings = self._endings.get(_slot(sender, recipient, parts), [])
        if len(endings) == 1 and is_value(self._scheme, endings[0]):
            return endings[0]
        return None

    def has_arrived(self, sender, recipient, parts, number):
        """Return whether the message with these parts and this number arrived once or more."""
        endings = self._endings.get(_slot(sender, recipient, parts), [])
        return any(is_integer(ending) and ending == number for ending in endings)


def _slot(sender, recipient, parts):
    # A text tells True from 1 at every depth, which a comparison does not, and parts may not be fit for a key.
    return (sender, recipient, repr(parts))
