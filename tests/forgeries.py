"""Random schemes, operations and misbehaviour, the same ones in every run."""

import copy
import itertools

from lotkept.errors import Conflict
from lotkept.networks import Network
from lotkept.schemes import is_scheme, require_multiplication, require_storage

ROUNDS = {"store": 5, "add": 0, "scale": 0, "multiply": 7, "read": 1, "publish": 1}
NAMES = ("a", "ab", "b", "c", "d", "e", "o", "p", "pq", "q", "z")


def antichain(chance, pool, most):
    """An ascending tuple of some of these sets, none within another one."""
    found = []
    for names in chance.sample(pool, len(pool)):
        if len(found) < most and not any(set(names) <= set(other) or set(other) <= set(names) for other in found):
            found.append(names)
    return tuple(sorted(found))


def subsets(names, sizes):
    return [row for many in sizes for row in itertools.combinations(names, many)]


def random_scheme(chance, multiplies):
    """A scheme that supports storage, and multiplication if it has to."""
    require = require_multiplication if multiplies else require_storage
    while True:
        names = chance.sample(NAMES, len(NAMES))
        many = chance.choice((2, 3, 3, 4, 4, 5))
        servers, clients = tuple(sorted(names[:many])), tuple(sorted(names[many:many + chance.randint(1, 3)]))
        observers = antichain(chance, subsets(servers, chance.choice(((0,), (1,), (1, 2), (1, 2, 3)))),
                              chance.randint(1, 4 if multiplies else 6))
        inner = sorted({row for names in observers for row in subsets(names, range(len(names) + 1))})
        inner = [names for names in inner if names or chance.random() < 0.1] or [()]
        faults = antichain(chance, inner, chance.randint(1, 6))
        scheme = (chance.choice((2, 3, 5, 7, 997)), servers, clients, observers, faults)
        if is_scheme(scheme) and supports(require, scheme):
            return scheme


def supports(require, scheme):
    try:
        require(scheme)
    except Conflict:
        return False
    return True


def random_faulty(chance, scheme):
    _, _, clients, _, faults = scheme
    servers = chance.choice(faults)
    if chance.random() < 0.2:
        servers = chance.sample(servers, chance.randint(0, len(servers)))
    return tuple(sorted(list(servers) + [client for client in clients if chance.random() < 0.4]))


def random_numbers(chance, scheme, many):
    limit = chance.choice((scheme[0], 10 * scheme[0], 10 ** 40))
    return tuple(
        (party, tuple(chance.randrange(limit) for _ in range(many)))
        for party in sorted(scheme[1] + scheme[2])
    )


def random_operation(chance, scheme, keys, multiplies):
    """A word and its arguments, for these existing keys."""
    words = ["store"] if not keys else ["store", "store", "add", "scale", "read", "read", "publish"]
    if keys and multiplies:
        words.extend(["multiply"] * 3)
    word = chance.choice(words)
    client, key = chance.choice(scheme[2]), chance.choice("xyzuvw")
    value = chance.randrange(scheme[0])
    old = [chance.choice(keys) for _ in range(2)] if keys else []
    arguments = {
        "store": lambda: (client, key, value), "add": lambda: (client, key, old[0], old[1]),
        "scale": lambda: (client, key, value, old[0]), "multiply": lambda: (client, key, old[0], old[1]),
        "read": lambda: (client, old[0]), "publish": lambda: (client, old[0]),
    }
    return word, arguments[word]()


def wrong_number(chance, prime, number):
    return chance.choice((
        (number + 1) % prime, chance.randrange(prime), 0, prime, -1, number + prime, True, False, None, str(number),
        (number,), [number], {"n": number}, 10 ** 39,
    ))


def changed_message(chance, scheme, message):
    """One message in another form: a list of what is sent in its place."""
    to, payload = message
    parties = scheme[1] + scheme[2] + ("",)
    deed = chance.randrange(8)
    if deed <= 2:
        return [(to, payload[:-1] + (wrong_number(chance, scheme[0], payload[-1]),))]
    if deed == 3:
        return []
    if deed == 4:
        return [message] + [(to, payload[:-1] + (chance.choice((payload[-1], payload[-1] + 1, None)),))]
    if deed == 5:
        return [(chance.choice(parties), payload)]
    if deed == 6:
        at = chance.randrange(len(payload))
        part = chance.choice((True, False, 0, 1, 2, "share", "echo", "left", "dealt", (), ("a",), [], {"a": ()}))
        return [(to, payload[:at] + (part,) + payload[at + 1:])]
    return [(to, chance.choice((payload + (0,), payload[1:], list(payload), payload[:1], (), "", None)))]


def invented_messages(chance, scheme, turn, names):
    """Messages that nobody may have asked for, in the forms that the rounds know."""
    prime, servers, _, observers, _ = scheme
    found = []
    for _ in range(chance.randint(0, 3)):
        name, k = chance.choice(names), chance.randrange(len(observers))
        number = chance.randrange(prime)
        a, b = (name + (0, 0))[1:3]
        m = chance.randrange(len(servers))
        payload = {
            1: ("share", name, k, number), 2: ("echo", name, k, number), 3: ("complaint", name, k, m),
            4: ("claim", name, k, number), 5: ("share", name, k, number), 6: ("difference", a, b, m, k, number),
            7: chance.choice((("left", a, b, number), ("right", a, b, number), ("dealt", a, b, m, k, number))),
        }[turn]
        to = "" if turn != 2 else chance.choice(servers)
        found.append((to, payload))
    return found


def shifted(chance, scheme, messages):
    """The same messages, with all numbers of some shares raised alike: a consistent lie."""
    prime = scheme[0]
    by = {}
    found = []
    for to, payload in messages:
        where = payload[:-1] if payload[0] == "share" else (to, payload[:-1])
        by.setdefault(where, chance.choice((0, 0, 1, chance.randrange(prime))))
        number = payload[-1] + by[where]
        found.append((to, payload[:-1] + (number % prime,)))
    return found


def forged_entry(chance, scheme, turn, required, names):
    """What a faulty party sends in place of what it is required to send."""
    way = chance.randrange(6)
    if way == 0:
        return ()
    if way <= 2:
        messages = shifted(chance, scheme, required)
    elif way == 3 and required:
        # A single deviation tests more than many that hide one another.
        at = chance.randrange(len(required))
        messages = required[:at] + changed_message(chance, scheme, required[at]) + required[at + 1:]
    else:
        rate = chance.choice((0.1, 0.5))
        messages = []
        for message in required:
            kept = chance.random() > rate
            messages.extend([message] if kept else changed_message(chance, scheme, message))
    if chance.random() < 0.5:
        messages = messages + invented_messages(chance, scheme, turn, names)
    if chance.random() < 0.1:
        chance.shuffle(messages)
    return tuple(messages)


def random_overrides(chance, network, scheme, faulty, operation, rate=0.4):
    """Overrides for an operation, made round by round from what the faulty parties are required to send."""
    word, arguments = operation
    index = network.operation_count()
    overrides = ()
    for turn in range(1, ROUNDS[word] + 1):
        liars = [party for party in faulty if chance.random() < rate]
        if not liars:
            continue
        trial = copy.deepcopy(network)
        getattr(trial, word)(*arguments, overrides=overrides)
        sent = [row[1:] for row in trial.messages() if row[0] == index]
        names = sorted({row[3][1] for row in sent if row[0] == 1 and is_share(row[3])}) or [(arguments[0],)]
        for party in liars:
            required = [(to, payload) for at, sender, to, payload in sent if (at, sender) == (turn, party)]
            if word in ("read", "publish"):
                entry = forged_report(chance, scheme, required, arguments[0])
            else:
                entry = forged_entry(chance, scheme, turn, required, names)
            overrides += ((turn, party, entry),)
    return overrides


def is_share(payload):
    if not isinstance(payload, tuple) or len(payload) != 4 or payload[0] != "share":
        return False
    name = payload[1]
    return isinstance(name, tuple) and len(name) in (1, 3) and [type(part) for part in name] in ([str], [str, int, int])


def forged_report(chance, scheme, required, client):
    messages = []
    for message in required:
        messages.extend([message] if chance.random() < 0.5 else changed_message(chance, scheme, message))
    if chance.random() < 0.3:
        payload = ("report", chance.randrange(len(scheme[3])), chance.randrange(scheme[0]))
        messages.append((chance.choice(("", client)), payload))
    return tuple(messages)


def random_case(chance, most, multiplies, honest=False):
    """A scheme, its faulty parties, their randomness, and operations with overrides that all succeed."""
    scheme = random_scheme(chance, multiplies)
    faulty = () if honest else random_faulty(chance, scheme)
    randomness = random_numbers(chance, scheme, 40 * len(scheme[3]) ** 2)
    network = Network(scheme, faulty, randomness)
    operations = []
    products = 0
    for _ in range(most):
        operation = random_operation(chance, scheme, network.stored_keys(), multiplies and products < 3)
        products += operation[0] == "multiply"
        overrides = random_overrides(chance, network, scheme, faulty, operation)
        getattr(network, operation[0])(*operation[1], overrides=overrides)
        operations.append(operation + (overrides,))
    return scheme, faulty, randomness, tuple(operations)
