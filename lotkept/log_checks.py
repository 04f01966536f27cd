"""What a log shows: the first round in which its party did not send what the protocol requires of it."""

from lotkept.any_values import exact_text
from lotkept.errors import InvalidLog, LotkeptError, NoCorrectValue, NotFound
from lotkept.integers import is_integer
from lotkept.ledgers import Ledger
from lotkept.mail import Mail
from lotkept.operations import is_operation, require_arguments
from lotkept.schemes import all_parties


def first_deviation(scheme, party, thing):
    """Return (operation, round) of the first deviation in any value that is a log of this party, or None."""
    if not isinstance(thing, tuple):
        raise InvalidLog("the log is not a tuple")
    reader = LogReader(scheme, party)
    found = None
    # A log that becomes invalid later is invalid, wherever its party deviated before.
    for at, entry in enumerate(thing):
        turn = reader.first_deviating_round(entry)
        if found is None and turn is not None:
            found = (at, turn)
    return found


class LogReader:
    """Follows a log from operation to operation, with all that its party knows; what it does not know counts as 0."""

    def __init__(self, scheme, party):
        self._scheme = scheme
        self._party = party
        self._ledger = Ledger(scheme)

    def first_deviating_round(self, entry):
        """Read the next operation; return the first round that is not as required, or None."""
        if not isinstance(entry, tuple) or len(entry) != 4:
            raise InvalidLog("an operation does not have four parts")
        word, arguments, state, rounds = entry
        if not is_operation(word, arguments):
            raise InvalidLog("an operation has an unknown word, or another number of arguments")
        known = self._known_arguments(word, arguments)
        if state != self._ledger.state():
            raise InvalidLog("a state is not the result of the broadcasts received before")
        if not isinstance(rounds, tuple) or not all(self._is_round(row) for row in rounds):
            raise InvalidLog("the rounds of an operation do not have their form")
        protocol = self._protocol(word, known, rounds)
        try:
            found = self._compare(protocol, rounds)
            if word == "read" and arguments[0] == self._party:
                # The client can tell the value only if the reports have one.
                protocol.opened_value()
            self._ledger.enter(word, known, protocol)
        except NoCorrectValue:
            raise InvalidLog("a correct value does not exist") from None
        return found

    def _known_arguments(self, word, arguments):
        """Return the arguments with 0 for the value that this party does not know, if a network accepts them."""
        known = arguments
        if word == "store" and arguments[0] != self._party:
            client, key, value = arguments
            if value is not None:
                raise InvalidLog("the value of a store by another party is told")
            known = (client, key, 0)
        try:
            require_arguments(self._scheme, self._ledger.keys_in_use(), word, known)
        except (LotkeptError, NotFound):
            raise InvalidLog("a network does not accept the arguments of an operation") from None
        return known

    def _protocol(self, word, known, rounds):
        """Return the protocol of an operation, if its rounds and their random numbers are as many as it takes."""
        needs = self._ledger.needs(word, known)
        for at, (numbers, _, _) in enumerate(rounds):
            wanted = needs.get(self._party, 0) if at == 0 else 0
            if len(numbers) != wanted:
                raise InvalidLog("a round has another number of random numbers")
        given = {party: (0,) * needs[party] for party in needs}
        if self._party in needs and len(rounds) > 0:
            given[self._party] = rounds[0][0]
        protocol = self._ledger.protocol(word, known, given)
        if len(rounds) != protocol.turn_count():
            raise InvalidLog("an operation has another number of rounds")
        return protocol

    def _compare(self, protocol, rounds):
        """Return the first round in which other messages were sent than those required, or None."""
        found = None
        for turn, (_, sent, received) in enumerate(rounds, start=1):
            required = protocol.required(turn, self._party)
            if found is None and _sorted_texts(sent) != _sorted_texts(required):
                found = turn
            protocol.deliver(Mail(self._scheme, received))
        return found

    def _is_round(self, thing):
        if not isinstance(thing, tuple) or len(thing) != 3 or not all(isinstance(part, tuple) for part in thing):
            return False
        numbers, sent, received = thing
        parties = all_parties(self._scheme)
        return (
            all(is_integer(number) and number >= 0 for number in numbers)
            and all(_is_message(message, (self._party,), parties + ("",)) for message in sent)
            and all(_is_message(message, parties, (self._party, "")) for message in received)
        )


def _is_message(thing, senders, recipients):
    return isinstance(thing, tuple) and len(thing) == 3 and thing[0] in senders and thing[1] in recipients


def _sorted_texts(messages):
    return sorted([exact_text(message) for message in messages])
