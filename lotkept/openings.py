"""What a read or a publication requires of each party, and what it leads to."""

from lotkept.party_sets import union
from lotkept.reports import accepted_reports, correct_value, holders_without
from lotkept.schemes import share_count
from lotkept.shares import combine_shares
from lotkept.states import active_holders

REPORT = "report"


class Opening:
    """The one round in which the servers report their shares, to one client or, as a broadcast, to all."""

    def __init__(self, scheme, state, parts, recipient):
        self._scheme = scheme
        self._state = state
        self._parts = parts
        self._recipient = recipient
        self._reports = []

    def turn_count(self):
        """Return how many rounds the operation takes."""
        return 1

    def required(self, turn, party):
        """Return the messages that are required of the party in a round."""
        exposed, _ = self._state
        if turn != 1 or party in exposed or party not in self._parts:
            return []
        shares = enumerate(self._parts[party])
        return [(party, self._recipient, (REPORT, index, share)) for index, share in shares if share is not None]

    def deliver(self, mail):
        """Take the messages of the round."""
        for index in range(share_count(self._scheme)):
            parts = (REPORT, index)
            self._reports.append(accepted_reports(self._scheme, self._state, index, mail, self._recipient, parts))

    def opened_value(self):
        """Return the value that the reports give."""
        return combine_shares(self._scheme, self._correct_values())

    def deviating(self):
        """Return the party set of the servers that reported another number than the correct one."""
        found = []
        for reports, correct in zip(self._reports, self._correct_values()):
            found.extend([holder for holder, number in reports if number != correct])
        return union((found,))

    def is_incident(self):
        """Return whether the parties had additional work: never."""
        return False

    def newly_exposed(self):
        """Return the parties that the round exposes; only a broadcast is evidence for all."""
        if self._recipient != "":
            return []
        found = []
        for index, correct in enumerate(self._correct_values()):
            active = active_holders(self._scheme, self._state, index)
            found.extend(holders_without(active, self._reports[index], correct))
        return found

    def new_disputes(self):
        """Return the disputes that the round leads to: none."""
        return []

    def _correct_values(self):
        return [correct_value(self._scheme, index, reports) for index, reports in enumerate(self._reports)]
