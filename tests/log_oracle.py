"""A second account of point 21, to compare the program with.

It follows a log with the second account of the operations (oracle.py), in which only the messages that the log has
are delivered, and all that its party does not know is 0.
"""

from tests.forgeries import ROUNDS
from tests.oracle import Oracle

ARGUMENTS = {
    "store": "client new value", "add": "client new old old", "scale": "client new value old",
    "multiply": "client new old old", "read": "client old", "publish": "client old",
}


class Follower(Oracle):
    def __init__(self, scheme, party):
        super().__init__(scheme, (), ())
        self.party = party

    def follow(self, word, arguments, rounds):
        """Run an operation with the messages of a log; returns the first round with other messages than required."""
        self.rows = list(rounds)
        self.own = [number for row in rounds for number in row[0]]
        self.wrong = None
        getattr(self, word)(*arguments)
        return self.wrong

    def deliver(self, required):
        self.turn += 1
        _, sent, received = self.rows[self.turn - 1]
        mine = [message for message in required if message[0] == self.party]
        if self.wrong is None and sorted(map(repr, mine)) != sorted(map(repr, sent)):
            self.wrong = self.turn
        return list(received)

    def draw(self, party):
        if party != self.party:
            return [0] * (self.count - 1)
        return [self.own.pop(0) for _ in range(self.count - 1)]

    def read(self, client, key, *, overrides=()):
        if client == self.party:
            super().read(client, key)
        else:
            # Only the client needs to find the value.
            self.begin(())
            self.report(key, client)
            self.end()

    def drawn(self, word, arguments):
        """How many random numbers the party uses."""
        if self.party in self.exposed:
            return 0
        if word == "store" and arguments[0] == self.party:
            return self.count - 1
        if word == "multiply" and self.party in self.servers:
            return (self.count - 1) * sum(self.party in names for names in self.holders) ** 2
        return 0


def is_number(thing, limit=None):
    return type(thing) is int and thing >= 0 and (limit is None or thing < limit)


def is_key(thing):
    return type(thing) is str and thing.isascii() and thing.isalpha() and thing.islower() and len(thing) <= 6


def multiplies(scheme):
    servers, observers, faults = set(scheme[1]), scheme[3], scheme[4]
    return not any(set(a) | set(b) | set(c) == servers for a in observers for b in observers for c in faults)


def is_accepted(scheme, keys, party, word, arguments):
    if type(arguments) is not tuple or len(arguments) != len(ARGUMENTS[word].split()):
        return False
    for role, argument in zip(ARGUMENTS[word].split(), arguments):
        if role == "client" and argument not in scheme[2]:
            return False
        if role == "old" and not (is_key(argument) and argument in keys):
            return False
        if role == "new" and not is_key(argument):
            return False
        if role == "value" and word == "store" and arguments[0] != party:
            if argument is not None:
                return False
        elif role == "value" and not is_number(argument, scheme[0]):
            return False
    return word != "multiply" or multiplies(scheme)


def are_messages(thing, senders, recipients):
    return type(thing) is tuple and all(
        type(row) is tuple and len(row) == 3 and row[0] in senders and row[1] in recipients for row in thing
    )


def are_rounds(scheme, party, thing, many, drawn):
    if type(thing) is not tuple or len(thing) != many:
        return False
    everybody = scheme[1] + scheme[2]
    for at, row in enumerate(thing):
        if type(row) is not tuple or len(row) != 3 or type(row[0]) is not tuple:
            return False
        if len(row[0]) != (drawn if at == 0 else 0) or not all(is_number(number) for number in row[0]):
            return False
        if not are_messages(row[1], (party,), everybody + ("",)) or not are_messages(row[2], everybody, (party, "")):
            return False
    return True


def judge(scheme, party, log):
    """What first_deviation has to return, or "InvalidLog"."""
    if type(log) is not tuple:
        return "InvalidLog"
    follower = Follower(scheme, party)
    found = None
    for at, entry in enumerate(log):
        if type(entry) is not tuple or len(entry) != 4 or not any(entry[0] is word or entry[0] == word for word in ROUNDS):
            return "InvalidLog"
        word, arguments, state, rounds = entry
        if not is_accepted(scheme, follower.shares, party, word, arguments):
            return "InvalidLog"
        if repr(state) != repr((tuple(sorted(follower.exposed)), tuple(sorted(follower.disputes)))):
            return "InvalidLog"
        if not are_rounds(scheme, party, rounds, ROUNDS[word], follower.drawn(word, arguments)):
            return "InvalidLog"
        known = tuple(0 if argument is None else argument for argument in arguments)
        try:
            turn = follower.follow(word, known, rounds)
        except (AssertionError, IndexError):
            # There is no correct value, or no remaining dealing.
            return "InvalidLog"
        if found is None and turn is not None:
            found = (at, turn)
    return found
