"""Claims: what is said of schemes and scenarios, and can be checked.

A claim is a tuple of a word and parts. No function here relies on a part before it has checked that it is valid.
"""

from lotkept.any_values import exact_text
from lotkept.equivalence import equivalent_scenario, is_free_store
from lotkept.errors import Conflict, LotkeptError, NoCorrectValue, NotFound
from lotkept.faults import identify_faulty
from lotkept.integers import is_integer
from lotkept.reports import are_reports, correct_value
from lotkept.scenarios import is_scenario, run_scenario
from lotkept.schemes import are_parties_within, is_scheme, is_value, require_multiplication, require_storage
from lotkept.schemes import share_count
from lotkept.states import is_state

# How many parts follow the word.
SIZES = {"conflict": 2, "correct": 4, "faulty": 4, "value": 3, "exposed": 2, "equivalent": 4}


def claim_holds(thing):
    """Return whether any value is a claim that holds."""
    if not isinstance(thing, tuple) or len(thing) == 0:
        return False
    word, *parts = thing
    if not isinstance(word, str) or word not in SIZES or len(parts) != SIZES[word]:
        return False
    check = CHECKS[word]
    return check(*parts)


def _conflict_holds(scheme, sets):
    if not is_scheme(scheme):
        return False
    return _raises_conflict(require_storage, scheme, sets) or _raises_conflict(require_multiplication, scheme, sets)


def _correct_holds(scheme, index, reports, value):
    if not _is_storing(scheme) or not is_integer(index) or not 0 <= index < share_count(scheme):
        return False
    if not are_reports(scheme, index, reports) or not is_value(scheme, value):
        return False
    try:
        return correct_value(scheme, index, reports) == value
    except NoCorrectValue:
        return False


def _faulty_holds(scheme, exposed, disputes, parties):
    if not _is_storing(scheme) or not is_state(scheme, exposed, disputes):
        return False
    return identify_faulty(scheme, exposed, disputes) == parties


def _value_holds(scenario, key, value):
    if not is_scenario(scenario) or not is_value(scenario[0], value):
        return False
    try:
        return run_scenario(scenario).expected_value(key) == value
    except (LotkeptError, NotFound):
        return False


def _exposed_holds(scenario, parties):
    if not is_scenario(scenario):
        return False
    try:
        return run_scenario(scenario).exposed() == parties
    except (LotkeptError, NotFound):
        return False


def _equivalent_holds(scenario, observers, values, other):
    if not is_scenario(scenario) or not are_parties_within(scenario[0], observers, scenario[0][3]):
        return False
    wanted = [step for step in scenario[3] if is_free_store(step, observers)]
    if not isinstance(values, tuple) or len(values) != len(wanted):
        return False
    if not all(is_value(scenario[0], value) for value in values):
        return False
    try:
        return exact_text(equivalent_scenario(scenario, observers, values)) == exact_text(other)
    except (LotkeptError, NotFound):
        return False


CHECKS = {
    "conflict": _conflict_holds,
    "correct": _correct_holds,
    "faulty": _faulty_holds,
    "value": _value_holds,
    "exposed": _exposed_holds,
    "equivalent": _equivalent_holds,
}


def _is_storing(thing):
    """Return whether any value is a scheme that supports storage."""
    if not is_scheme(thing):
        return False
    try:
        require_storage(thing)
    except Conflict:
        return False
    return True


def _raises_conflict(require, scheme, sets):
    try:
        require(scheme)
    except Conflict as found:
        return found.sets == sets
    return False
