"""Values of any structure, as faulty parties may send them."""


def copied(thing):
    """Return an equal value that has no list and no dict in common with the given one."""
    if isinstance(thing, tuple):
        return tuple(copied(part) for part in thing)
    if isinstance(thing, list):
        return [copied(part) for part in thing]
    if isinstance(thing, dict):
        return {key: copied(thing[key]) for key in thing}
    return thing


def exact_text(thing):
    """Return a text that two values share only if they are equal and of the same kinds at every depth."""
    if isinstance(thing, tuple):
        return "(" + _listed([exact_text(part) for part in thing]) + ")"
    if isinstance(thing, list):
        return "[" + _listed([exact_text(part) for part in thing]) + "]"
    if isinstance(thing, dict):
        # The order in which a dict got its keys is no part of what it is.
        return "{" + _listed(sorted([exact_text(key) + ":" + exact_text(part) for key, part in thing.items()])) + "}"
    return repr(thing)


def _listed(texts):
    # Each part has a comma of its own, so that no part and an empty list of parts differ.
    return "".join([text + "," for text in texts])
