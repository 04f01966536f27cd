"""Random changes of logs."""

from tests.any_values import any_values
from tests.forgeries import changed_message
from tests.places import at_place, places, put

PARTS = any_values() + (("p",), ("q",), ("a", "b"), (("a", "b"),), 3, 4, "p", "q", "x", "y", "store", "read", "publish")


def message_rows(log):
    """The places of what was sent and what was received in each round."""
    return [
        (at, 3, turn, kind) for at, entry in enumerate(log) for turn in range(len(entry[3])) for kind in (1, 2)
    ]


def changed_row(chance, scheme, row):
    """The same messages, but for one that is left out, doubled, moved, changed or sent elsewhere."""
    at = chance.randrange(len(row))
    message = row[at]
    deed = chance.randrange(6)
    others = [message]
    if deed == 0:
        others = []
    elif deed == 1:
        others = [message, message]
    elif deed == 2:
        return tuple(chance.sample(row, len(row)))
    elif deed == 3:
        others = [(chance.choice(scheme[1] + scheme[2] + ("",)),) + message[1:]]
    elif isinstance(message[2], tuple) and message[2] and type(message[2][-1]) is int:
        others = [message[:1] + other for other in changed_message(chance, scheme, message[1:])]
    return row[:at] + tuple(others) + row[at + 1:]


def changed_log(chance, scheme, log):
    """A log that differs in one place, most often in its messages."""
    rows = message_rows(log)
    full = [place for place in rows if at_place(log, place)]
    deed = chance.randrange(10)
    if full and deed < 6:
        place = chance.choice(full)
        return put(log, place, changed_row(chance, scheme, at_place(log, place)))
    if full and deed == 6:
        place = chance.choice(rows)
        row, more = at_place(log, place), at_place(log, chance.choice(full))
        return put(log, place, row + more[:chance.randint(1, 2)])
    if len(log) > 1 and deed == 7:
        at = chance.randrange(len(log))
        other = chance.choice((log[at:at], log[at:at + 1] * 2, (chance.choice(log),)))
        return log[:at] + other + log[at + 1:]
    place = chance.choice(places(log, chance.choice((2, 3, 4, 5, 6, 8))))
    return put(log, place, chance.choice(PARTS))


def has_form(thing):
    """Whether a changed log still has its messages where changed_log looks for them."""
    if type(thing) is not tuple:
        return False
    for entry in thing:
        if type(entry) is not tuple or len(entry) != 4 or type(entry[3]) is not tuple:
            return False
        for row in entry[3]:
            if type(row) is not tuple or len(row) != 3 or not all(type(part) is tuple for part in row[1:]):
                return False
            if not all(type(message) is tuple and len(message) == 3 for message in row[1] + row[2]):
                return False
    return True
