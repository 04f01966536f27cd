"""The operations of a network by their words: what they are given, and when they accept it."""

from lotkept.errors import InvalidName, InvalidValue, UnknownClient, UnknownKey
from lotkept.party_sets import is_name
from lotkept.schemes import is_value, require_multiplication

# What each argument of an operation is, in order; a key is one that must exist, a new key need not.
ROLES = {
    "store": ("client", "new key", "value"),
    "add": ("client", "new key", "key", "key"),
    "scale": ("client", "new key", "value", "key"),
    "multiply": ("client", "new key", "key", "key"),
    "read": ("client", "key"),
    "publish": ("client", "key"),
}


def is_operation(word, arguments):
    """Return whether any two values are the word of an operation, and a tuple with as many arguments as it has."""
    if not isinstance(word, str) or word not in ROLES:
        return False
    return isinstance(arguments, tuple) and len(arguments) == len(ROLES[word])


def creates_key(word):
    """Return whether the operation keeps a value, under its second argument."""
    return "new key" in ROLES[word]


def perform(network, word, arguments, overrides):
    """Run the operation with this word on a network, and return its result."""
    if word == "store":
        return network.store(*arguments, overrides=overrides)
    if word == "add":
        # Sets have an `add`, too, and L7 lets no call of such a name have a star.
        client, key, first, second = arguments
        return network.add(client, key, first, second, overrides=overrides)
    if word == "scale":
        return network.scale(*arguments, overrides=overrides)
    if word == "multiply":
        return network.multiply(*arguments, overrides=overrides)
    if word == "read":
        return network.read(*arguments, overrides=overrides)
    return network.publish(*arguments, overrides=overrides)


def require_arguments(scheme, keys, word, arguments):
    """Return None, or raise the error of an operation that does not accept these arguments; keys are those in use."""
    # The order of the errors is not the order of the arguments.
    for client in _with_role("client", word, arguments):
        _require_client(scheme, client)
    for key in _with_role("key", word, arguments):
        require_key(keys, key)
    for key in _with_role("new key", word, arguments):
        _require_name(key)
    for value in _with_role("value", word, arguments):
        _require_value(scheme, value)
    if word == "multiply":
        require_multiplication(scheme)


def require_key(keys, key):
    """Return None, or raise UnknownKey if any value is not one of these keys."""
    if not is_name(key) or key not in keys:
        raise UnknownKey(key)


def _with_role(wanted, word, arguments):
    return [argument for role, argument in zip(ROLES[word], arguments) if role == wanted]


def _require_client(scheme, client):
    if client not in scheme[2]:
        raise UnknownClient(client)


def _require_name(key):
    if not is_name(key):
        raise InvalidName(key)


def _require_value(scheme, value):
    if not is_value(scheme, value):
        raise InvalidValue(value)
