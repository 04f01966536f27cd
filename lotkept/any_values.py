"""Values of any structure, as faulty parties may send them."""


def copied(thing):
    """Return an equal value that has no list and no dict in common with the given one."""
    if isinstance(thing, tuple):
        return tuple(copied(part) for part in thing)
    if isinstance(thing, list):
        return [copied(part) for part in thing]
    if isinstance(thing, dict):
        return {key: copied(thing[key]) for key in thing}
    return thing
