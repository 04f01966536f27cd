"""One share of a dealing, from round to round."""

from lotkept.states import active_holders, are_in_dispute, pair_of


class DealtShare:
    """What one share of a dealing requires of each party, and what it leads to.

    All that a method says of a party follows from what this party has, the messages to it and the broadcasts.
    """

    def __init__(self, scheme, state, name, index, number):
        self._servers = scheme[1]
        self._state = state
        self._dealer = name[0]
        self._parts = (name, index)
        self._number = number
        self._holders = active_holders(scheme, state, index)
        self._is_broadcast = any(are_in_dispute(state, self._dealer, holder) for holder in self._holders)
        self._mails = []
        # The pairs (complaining holder, accused holder) of the complaints that count.
        self._complaints = []

    def required(self, turn, party):
        """Return the messages that are required of the party in a round from 1 to 5."""
        if turn == 1:
            return self._first_shares(party)
        if turn == 2:
            return self._echoes(party)
        if turn == 3:
            return self._own_complaints(party)
        if turn == 4:
            return self._claims(party)
        return self._repeated_shares(party)

    def deliver(self, mail):
        """Take the messages of the next round."""
        self._mails.append(mail)
        if len(self._mails) == 3:
            self._complaints = self._counting_complaints(mail)

    def is_withheld(self):
        """Return whether a number that the dealer had to broadcast by now was not accepted."""
        if self._is_broadcast:
            return self._announced(1) is None
        return self.has_complaint() and len(self._mails) == 5 and self._announced(5) is None

    def has_complaint(self):
        """Return whether a complaint counts."""
        return len(self._complaints) > 0

    def settled(self, holder):
        """Return what a holder has after round 5."""
        return self._announced(5) if self.has_complaint() else self._held(holder)

    def silent_holders(self):
        """Return the holders that had to broadcast in round 4 and did not."""
        return [holder for holder in self._holders if self._is_involved(holder) and self._claimed(holder) is None]

    def new_disputes(self):
        """Return the disputes that the complaints lead to."""
        found = [pair_of(self._dealer, holder) for holder in self._holders if self._contradicts_dealer(holder)]
        for first, second in self._complaints:
            if self._claimed(first) is not None and self._claimed(first) == self._claimed(second):
                found.append(pair_of(first, second))
        return found

    def _first_shares(self, party):
        if party != self._dealer:
            return []
        payload = self._payload("share", self._number)
        if self._is_broadcast:
            return [(party, "", payload)]
        return [(party, holder, payload) for holder in self._holders if holder != party]

    def _echoes(self, party):
        return [(party, other, self._payload("echo", self._held(party))) for other in self._checked_by(party)]

    def _own_complaints(self, party):
        return [
            (party, "", self._payload("complaint", self._servers.index(other)))
            for other in self._checked_by(party) if self._differs(party, other)
        ]

    def _claims(self, party):
        if not self._is_involved(party):
            return []
        return [(party, "", self._payload("claim", self._held(party)))]

    def _repeated_shares(self, party):
        if party != self._dealer or not self.has_complaint():
            return []
        return [(party, "", self._payload("share", self._number))]

    def _payload(self, word, number):
        return (word,) + self._parts + (number,)

    def _checked_by(self, party):
        """Return the holders that this party checks; they check it, too."""
        if self._is_broadcast or party == self._dealer or party not in self._holders:
            return []
        others = [holder for holder in self._holders if holder != party and holder != self._dealer]
        return [holder for holder in others if not are_in_dispute(self._state, party, holder)]

    def _held(self, holder):
        """Return what a holder has after round 1."""
        if holder == self._dealer and not self._is_broadcast:
            return self._number
        recipient = "" if self._is_broadcast else holder
        number = self._accepted(1, self._dealer, recipient, "share")
        return 0 if number is None else number

    def _differs(self, holder, other):
        """Return whether a holder accepted from another one a number that is not its own."""
        number = self._accepted(2, other, holder, "echo")
        return number is not None and number != self._held(holder)

    def _counting_complaints(self, mail):
        return [
            (holder, other) for holder in self._holders for other in self._checked_by(holder)
            if mail.has_arrived(holder, "", ("complaint",) + self._parts, self._servers.index(other))
        ]

    def _is_involved(self, party):
        return any(party in pair for pair in self._complaints)

    def _claimed(self, holder):
        return self._accepted(4, holder, "", "claim")

    def _announced(self, turn):
        return self._accepted(turn, self._dealer, "", "share")

    def _contradicts_dealer(self, holder):
        if not self._is_involved(holder) or self._claimed(holder) is None or self._announced(5) is None:
            return False
        return self._claimed(holder) != self._announced(5)

    def _accepted(self, turn, sender, recipient, word):
        return self._mails[turn - 1].accepted(sender, recipient, (word,) + self._parts)
