"""Scenarios (scheme, faulty, randomness, operations): a network, and what it is asked to do.

operations is a tuple of (word, arguments, overrides).
"""

from lotkept.errors import LotkeptError
from lotkept.networks import Network
from lotkept.operations import is_operation, perform


def is_scenario(thing):
    """Return whether any value is a scenario."""
    if not isinstance(thing, tuple) or len(thing) != 4:
        return False
    scheme, faulty, randomness, operations = thing
    if not isinstance(operations, tuple) or not all(_is_step(step) for step in operations):
        return False
    try:
        Network(scheme, faulty, randomness)
    except LotkeptError:
        return False
    return True


def run_scenario(scenario):
    """Return the network after all operations, or raise what the first failing one raises."""
    scheme, faulty, randomness, operations = scenario
    network = Network(scheme, faulty, randomness)
    for word, arguments, overrides in operations:
        perform(network, word, arguments, overrides)
    return network


def _is_step(thing):
    if not isinstance(thing, tuple) or len(thing) != 3:
        return False
    word, arguments, _ = thing
    return is_operation(word, arguments)
