"""Names of parties, and sets of them: ascending tuples of names."""

LONGEST_NAME = 6


def is_name(thing):
    """Return whether any value is a name."""
    if not isinstance(thing, str):
        return False
    return 1 <= len(thing) <= LONGEST_NAME and all("a" <= letter <= "z" for letter in thing)


def is_ascending(entries):
    """Return whether each of the entries is greater than the one before."""
    return all(low < high for low, high in zip(entries, entries[1:]))


def is_party_set(thing):
    """Return whether any value is a party set."""
    if not isinstance(thing, tuple):
        return False
    return all(is_name(entry) for entry in thing) and is_ascending(thing)


def is_subset(first, second):
    """Return whether all names of the first set are in the second set."""
    return all(name in second for name in first)


def union(sets):
    """Return the party set of all names in the given sets."""
    return tuple(sorted({name for names in sets for name in names}))
