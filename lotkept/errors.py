"""The errors of the package.

Every class defines how it is made, even where its base class does it alike,
because the interface lists the arguments of each one. No class makes a text of
what it is given: any value is accepted, and it is shown only when it is asked for.
"""


class LotkeptError(ValueError):
    """What the package refuses; the base of the errors about values."""

    def __init__(self, message=""):
        ValueError.__init__(self, message)


class Conflict(LotkeptError):
    """These three sets together contain all servers."""

    def __init__(self, sets):
        LotkeptError.__init__(self, sets)
        self.sets = sets


class InvalidName(LotkeptError):
    """The new key is not a name."""

    def __init__(self, value):
        LotkeptError.__init__(self, value)
        self.value = value


class InvalidValue(LotkeptError):
    """The value or the factor is not a value of the scheme."""

    def __init__(self, value):
        LotkeptError.__init__(self, value)
        self.value = value


class InvalidOverrides(LotkeptError):
    """The overrides do not have their form."""

    def __init__(self, value):
        LotkeptError.__init__(self, value)
        self.value = value


class InvalidObservers(LotkeptError):
    """The observers are not a party set that may observe."""

    def __init__(self, value):
        LotkeptError.__init__(self, value)
        self.value = value


class RandomnessExhausted(LotkeptError):
    """The party has fewer random numbers left than the operation needs."""

    def __init__(self, party):
        LotkeptError.__init__(self, party)
        self.party = party


class NotEquivalent(LotkeptError):
    """The operation with this index shows the observers that the values differ."""

    def __init__(self, operation):
        LotkeptError.__init__(self, operation)
        self.operation = operation


class NoCorrectValue(LotkeptError):
    """The reports do not determine a value."""

    def __init__(self, message=""):
        LotkeptError.__init__(self, message)
        self.message = message


class InvalidScheme(LotkeptError):
    """The value is not a scheme."""

    def __init__(self, message=""):
        LotkeptError.__init__(self, message)
        self.message = message


class InvalidFaulty(LotkeptError):
    """The value is not a set of parties that may be faulty."""

    def __init__(self, message=""):
        LotkeptError.__init__(self, message)
        self.message = message


class InvalidRandomness(LotkeptError):
    """The value is not a tuple of parties and their random numbers."""

    def __init__(self, message=""):
        LotkeptError.__init__(self, message)
        self.message = message


class InvalidText(LotkeptError):
    """The value is not the text of a scheme, or not a command."""

    def __init__(self, message=""):
        LotkeptError.__init__(self, message)
        self.message = message


class InvalidLog(LotkeptError):
    """The value is not a log."""

    def __init__(self, message=""):
        LotkeptError.__init__(self, message)
        self.message = message


class NotFound(KeyError):
    """There is nothing with this name."""

    def __init__(self, name):
        KeyError.__init__(self, name)
        self.name = name


class UnknownKey(NotFound):
    """No value is stored under this key."""

    def __init__(self, name):
        NotFound.__init__(self, name)


class UnknownClient(NotFound):
    """The scheme has no client with this name."""

    def __init__(self, name):
        NotFound.__init__(self, name)


class UnknownServer(NotFound):
    """The scheme has no server with this name."""

    def __init__(self, name):
        NotFound.__init__(self, name)


class UnknownParty(NotFound):
    """The scheme has no party with this name."""

    def __init__(self, name):
        NotFound.__init__(self, name)
