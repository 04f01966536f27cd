"""Logs: what a party knows of each operation of a network."""


def party_log(network, party):
    """Return, for each operation, (word, arguments, state, rounds) as the party knows them."""
    return tuple(
        (word, _known_arguments(word, arguments, party), state, _rounds_of(party, numbers, rounds))
        for word, arguments, state, numbers, rounds in network.history()
    )


def _known_arguments(word, arguments, party):
    if word != "store" or arguments[0] == party:
        return arguments
    # Only the client knows what it stores.
    client, key, _ = arguments
    return client, key, None


def _rounds_of(party, numbers, rounds):
    """Return, for each round, (numbers, sent, received) of the party."""
    own = dict(numbers).get(party, ())
    return tuple(
        (own if at == 0 else (), _sent_by(party, messages), _received_by(party, messages))
        for at, messages in enumerate(rounds)
    )


def _sent_by(party, messages):
    return tuple(message for message in messages if message[0] == party)


def _received_by(party, messages):
    return tuple(message for message in messages if message[1] in (party, ""))
