"""The places of nested tuples, and what stands there."""


def places(thing, deepest=99):
    """Every place in nested tuples, as a tuple of indexes; () is the whole."""
    found = [()]
    if isinstance(thing, tuple) and deepest > 0:
        for at, part in enumerate(thing):
            found.extend((at,) + place for place in places(part, deepest - 1))
    return found


def at_place(thing, place):
    for index in place:
        thing = thing[index]
    return thing


def put(thing, place, part):
    """The same nested tuples with something else at one place."""
    if not place:
        return part
    at = place[0]
    return thing[:at] + (put(thing[at], place[1:], part),) + thing[at + 1:]
