"""The console: a network that is told in words what to do."""

from lotkept.commands import parse_command
from lotkept.networks import Network
from lotkept.operations import ROLES, perform

NOTHING = "none"


class Console:
    """A network, and what its faulty parties are to send in the next operation."""

    def __init__(self, scheme, faulty, randomness):
        self._network = Network(scheme, faulty, randomness)
        # For each round and party, in the order in which they were named, the messages (recipient, payload).
        self._forged = {}

    def network(self):
        """Return the network of the console itself, not a copy."""
        return self._network

    def run(self, line):
        """Execute a command, and return its result in words."""
        word, arguments = parse_command(line)
        if word in ROLES:
            return self._operate(word, arguments)
        if word == "send":
            return self._send(arguments)
        if word == "silence":
            turn, party = arguments
            self._forged[(turn, party)] = []
            return "ok"
        return self._answer(word, arguments)

    def _send(self, arguments):
        turn, party, recipient, *payload = arguments
        self._forged.setdefault((turn, party), []).append((recipient, tuple(payload)))
        return "ok"

    def _operate(self, word, arguments):
        overrides = tuple((turn, party, tuple(messages)) for (turn, party), messages in self._forged.items())
        # They are gone even if the operation raises an error.
        self._forged = {}
        result = perform(self._network, word, arguments, overrides)
        if word == "read":
            return _told(result)
        return str(result) if word == "publish" else "ok"

    def _answer(self, word, arguments):
        """Return the result of a query."""
        if word == "exposed":
            return " ".join(self._network.exposed()) or NOTHING
        if word == "disputes":
            return ", ".join([f"{first} {second}" for first, second in self._network.disputes()]) or NOTHING
        if word == "keys":
            return " ".join(self._network.stored_keys()) or NOTHING
        if word == "expect":
            return str(self._network.expected_value(arguments[0]))
        return str(self._network.round_count())


def _told(result):
    """Return the result of a read in words."""
    if result is None:
        return "-"
    value, deviating = result
    if len(deviating) == 0:
        return str(value)
    return " ".join([str(value), "but", *deviating])
