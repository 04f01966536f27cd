"""Terms of a product: share a of one value times share b of another one."""

from lotkept.dealings import ROUNDS_OF_DEALING
from lotkept.errors import InvalidLog
from lotkept.reports import settle
from lotkept.schemes import share_count
from lotkept.shares import combine_shares, part_of_server, public_shares
from lotkept.states import active_holders


class Term:
    """One term, from round to round; its dealings are in the order of their dealers."""

    def __init__(self, scheme, state, pair, factors, dealings):
        self._scheme = scheme
        self._state = state
        self._pair = pair
        # Of each of the two values, what each server has.
        self._factors = factors
        self._dealings = dealings
        self._remaining = dealings
        self._product = None
        self._is_opened = False
        self._newly_exposed = []

    def required(self, turn, party):
        """Return the messages that are required of the party in a round from 1 to 7."""
        if turn <= ROUNDS_OF_DEALING:
            return [message for dealing in self._dealings for message in dealing.required(turn, party)]
        if turn == 6:
            return self._differences(party)
        if self._is_opened:
            return self._factor_shares(party) + self._dealt_shares(party)
        return []

    def deliver(self, turn, mail):
        """Take the messages of a round."""
        if turn <= ROUNDS_OF_DEALING:
            for dealing in self._dealings:
                dealing.deliver(mail)
        elif turn == 6:
            self._compare(mail)
        elif self._is_opened:
            self._open_factors(mail)
            self._open_dealings(mail)

    def failed_dealers(self):
        """Return the dealers whose dealing of this term failed."""
        return [dealing.dealer for dealing in self._dealings if dealing.has_failed]

    def leave_out(self, dealers):
        """Keep only the dealings of other dealers as remaining ones."""
        self._remaining = [dealing for dealing in self._dealings if dealing.dealer not in dealers]
        if len(self._remaining) == 0:
            # In a network some dealer is honest; only a log may tell that all of them failed.
            raise InvalidLog("no dealing of a term remains")

    def part_of(self, server):
        """Return what a server has of the term after round 7."""
        if not self._is_opened:
            return self._remaining[0].part_of(server)
        exposed, _ = self._state
        known = 0 if server in exposed else self._product
        return part_of_server(self._scheme, server, public_shares(self._scheme, known))

    def is_incident(self):
        """Return whether a complaint counts or the term is opened."""
        return self._is_opened or any(dealing.is_incident() for dealing in self._dealings)

    def newly_exposed(self):
        """Return the parties that the term exposes."""
        return self._newly_exposed + [party for dealing in self._dealings for party in dealing.newly_exposed()]

    def new_disputes(self):
        """Return the disputes that the term leads to."""
        return [pair for dealing in self._dealings for pair in dealing.new_disputes()]

    def _differences(self, party):
        first = self._remaining[0]
        found = []
        for dealing in self._remaining[1:]:
            for index in self._indexes_of(party):
                number = (dealing.share_of(party, index) - first.share_of(party, index)) % self._scheme[0]
                found.append((party, "", self._dealing_parts("difference", dealing, index) + (number,)))
        return found

    def _factor_shares(self, party):
        indexes = self._indexes_of(party)
        found = []
        for word, index, parts in zip(("left", "right"), self._pair, self._factors):
            if index in indexes:
                found.append((party, "", (word,) + self._pair + (parts[party][index],)))
        return found

    def _dealt_shares(self, party):
        return [
            (party, "", self._dealing_parts("dealt", dealing, index) + (dealing.share_of(party, index),))
            for dealing in self._remaining for index in self._indexes_of(party)
        ]

    def _compare(self, mail):
        """Find out from round 6 whether the term is opened."""
        for dealing in self._remaining[1:]:
            if combine_shares(self._scheme, self._settled_shares(mail, "difference", dealing)) != 0:
                self._is_opened = True

    def _open_factors(self, mail):
        self._product = 1
        for word, index in zip(("left", "right"), self._pair):
            share = self._settled(mail, index, (word,) + self._pair)
            self._product = self._product * share % self._scheme[0]

    def _open_dealings(self, mail):
        for dealing in self._remaining:
            if combine_shares(self._scheme, self._settled_shares(mail, "dealt", dealing)) != self._product:
                self._newly_exposed.append(dealing.dealer)

    def _settled_shares(self, mail, word, dealing):
        """Return, for each share, the correct value of what its holders broadcast about a dealing."""
        indexes = range(share_count(self._scheme))
        return [self._settled(mail, index, self._dealing_parts(word, dealing, index)) for index in indexes]

    def _settled(self, mail, index, parts):
        correct, others = settle(self._scheme, self._state, index, mail, parts)
        self._newly_exposed.extend(others)
        return correct

    def _dealing_parts(self, word, dealing, index):
        return (word,) + self._pair + (self._scheme[1].index(dealing.dealer), index)

    def _indexes_of(self, party):
        """Return the shares of which a party is a holder that is not exposed."""
        indexes = range(share_count(self._scheme))
        return [index for index in indexes if party in active_holders(self._scheme, self._state, index)]
