"""Dealings: a party gives the shares of a value to their holders."""

from lotkept.dealt_shares import DealtShare
from lotkept.schemes import holders, share_count
from lotkept.shares import split_value

ROUNDS_OF_DEALING = 5


def numbers_per_dealing(scheme):
    """Return how many random numbers a dealing takes."""
    return share_count(scheme) - 1


class Dealing:
    """A dealing, from round to round; its name begins with the dealer."""

    def __init__(self, scheme, state, name, value, numbers):
        exposed, _ = state
        self.dealer = name[0]
        # What an exposed party deals is as void as what fails in round 1.
        self.has_failed = self.dealer in exposed
        self._scheme = scheme
        self._exposed = exposed
        self._shares = []
        if not self.has_failed:
            for index, share in enumerate(split_value(scheme, value, numbers)):
                self._shares.append(DealtShare(scheme, state, name, index, share))

    def turn_count(self):
        """Return how many rounds the dealing takes."""
        return ROUNDS_OF_DEALING

    def required(self, turn, party):
        """Return the messages that are required of the party in a round."""
        if self.has_failed:
            return []
        return [message for share in self._shares for message in share.required(turn, party)]

    def deliver(self, mail):
        """Take the messages of the next round."""
        # After a failure in round 1 the shares get no messages any more, so no complaint counts.
        if not self.has_failed:
            for share in self._shares:
                share.deliver(mail)
            self.has_failed = any(share.is_withheld() for share in self._shares)

    def share_of(self, server, index):
        """Return what a holder has of a share after the last round."""
        if self.has_failed or server in self._exposed:
            return 0
        return self._shares[index].settled(server)

    def part_of(self, server):
        """Return what a server has of all shares after the last round."""
        return tuple(
            self.share_of(server, index) if server in holders(self._scheme, index) else None
            for index in range(share_count(self._scheme))
        )

    def is_incident(self):
        """Return whether a complaint counts."""
        return any(share.has_complaint() for share in self._shares)

    def newly_exposed(self):
        """Return the parties that the dealing exposes."""
        found = [self.dealer] if self.has_failed else []
        for share in self._shares:
            found.extend(share.silent_holders())
        return found

    def new_disputes(self):
        """Return the disputes that the dealing leads to."""
        return [pair for share in self._shares for pair in share.new_disputes()]
