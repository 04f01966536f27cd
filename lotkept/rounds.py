"""The rounds of an operation: what is required is determined, faulty parties replace it, all is delivered."""

from lotkept.mail import Mail
from lotkept.overrides import forged_messages
from lotkept.schemes import all_parties


def run_rounds(scheme, protocol, overrides):
    """Run the rounds of a protocol, and return the messages (sender, recipient, payload) of each one."""
    forged = forged_messages(overrides)
    rounds = []
    for turn in range(1, protocol.turn_count() + 1):
        messages = []
        for party in all_parties(scheme):
            if (turn, party) in forged:
                messages.extend(forged[(turn, party)])
            else:
                messages.extend(protocol.required(turn, party))
        protocol.deliver(Mail(scheme, messages))
        rounds.append(messages)
    return rounds
