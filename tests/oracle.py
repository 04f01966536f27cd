"""A second account of points 6 to 18, to compare the program with.

It is written along the sentences of the document, for all parties at once, and searches the messages of a round
for whatever it asks of them. Errors are not part of it: it is only given operations that succeed.
"""

import itertools


def same(first, second):
    """Equality that tells True from 1, at every depth."""
    if type(first) is not type(second):
        return False
    if isinstance(first, (tuple, list)):
        return len(first) == len(second) and all(map(same, first, second))
    if isinstance(first, dict):
        return same(list(first), list(second)) and all(same(first[key], second[key]) for key in first)
    return first == second


class Oracle:
    def __init__(self, scheme, faulty, randomness):
        self.prime, self.servers, self.clients, self.observers, self.faults = scheme
        self.count = len(self.observers)
        self.holders = [set(self.servers) - set(names) for names in self.observers]
        self.faulty = set(faulty)
        self.numbers = {party: [] for party in self.servers + self.clients}
        self.numbers.update((party, list(numbers)) for party, numbers in randomness)
        self.used = {party: [] for party in self.numbers}
        self.exposed, self.disputes = set(), set()
        self.shares, self.expected, self.log = {}, {}, []
        self.rounds = self.operations = self.incidents = 0

    # rounds

    def begin(self, overrides):
        self.turn = 0
        self.forged = {(turn, party): messages for turn, party, messages in overrides}
        # The public state from before the operation, and what the operation adds to it.
        self.out, self.quarrels = set(self.exposed), set(self.disputes)
        self.caught, self.quarrelled, self.incident = set(), set(), False

    def deliver(self, required):
        """Replace the messages of faulty parties, and note and return all messages of the round."""
        self.turn += 1
        self.rounds += 1
        now = []
        for party in sorted(self.numbers):
            if party in self.faulty and (self.turn, party) in self.forged:
                now.extend((party, to, payload) for to, payload in self.forged[self.turn, party])
            else:
                now.extend(message for message in required if message[0] == party)
        self.log.extend((self.operations, self.turn) + message for message in now)
        return now

    def end(self):
        self.operations += 1
        self.incidents += self.incident
        self.disputes |= self.quarrelled
        self.exposed |= self.caught
        self.exposed |= {server for server in self.servers if not self.explained_without(server)}

    def explained_without(self, server):
        for fault in self.faults:
            rest = set(fault) - {server}
            open_pairs = [
                pair for pair in self.disputes if set(pair) <= set(self.servers) and not set(pair) & rest
            ]
            if not open_pairs and not (self.exposed & set(self.servers)) - rest:
                return True
        return False

    def accept(self, now, sender, recipient, *parts):
        found = [
            payload for who, to, payload in now
            if (who, to) == (sender, recipient) and isinstance(payload, tuple) and same(payload[:-1], parts)
            and len(payload) == len(parts) + 1
        ]
        if len(found) == 1 and type(found[0][-1]) is int and found[0][-1] in range(self.prime):
            return found[0][-1]
        return None

    def heard(self, now, sender, payload):
        return any(who == sender and to == "" and same(thing, payload) for who, to, thing in now)

    def correct(self, k, reports):
        """reports: a dict from holders to numbers or None."""
        for number in range(self.prime):
            silent = {holder for holder in self.holders[k] if reports.get(holder) != number}
            if any(silent <= set(fault) for fault in self.faults):
                return number
        raise AssertionError("no correct value")

    def active(self, k):
        return sorted(self.holders[k] - self.out)

    def draw(self, party):
        drawn = [self.numbers[party].pop(0) for _ in range(self.count - 1)]
        self.used[party].extend(drawn)
        return drawn

    def split(self, value, numbers):
        shares = [number % self.prime for number in numbers]
        return shares + [(value - sum(shares)) % self.prime]

    def disputed(self, first, second):
        return tuple(sorted((first, second))) in self.quarrels

    # dealings

    def deal(self, dealings):
        """Rounds 1 to 5 of all dealings, a dict from names to shares; returns what each holder has, and who failed."""
        where = [(name, k) for name in dealings for k in range(self.count)]
        loud = {
            (name, k): any(holder != name[0] and self.disputed(holder, name[0]) for holder in self.active(k))
            for name, k in where
        }

        def checking(name, k):
            pairs = [] if loud[name, k] else itertools.permutations(self.active(k), 2)
            return [pair for pair in pairs if name[0] not in pair and not self.disputed(*pair)]

        required = []
        for name, k in where:
            recipients = [""] if loud[name, k] else [holder for holder in self.active(k) if holder != name[0]]
            required.extend((name[0], to, ("share", name, k, dealings[name][k])) for to in recipients)
        now = self.deliver(required)
        has, dead = {}, set()
        for name, k in where:
            for holder in self.active(k):
                has[holder, name, k] = self.accept(now, name[0], "" if loud[name, k] else holder, "share", name, k) or 0
            if loud[name, k] and self.accept(now, name[0], "", "share", name, k) is None:
                dead.add(name)
            if not loud[name, k] and name[0] in self.active(k):
                has[name[0], name, k] = dealings[name][k]
        alive = [(name, k) for name, k in where if name not in dead]

        now = self.deliver([
            (first, second, ("echo", name, k, has[first, name, k]))
            for name, k in alive for first, second in checking(name, k)
        ])
        now = self.deliver([
            (first, "", ("complaint", name, k, self.servers.index(second)))
            for name, k in alive for first, second in checking(name, k)
            if self.accept(now, second, first, "echo", name, k) not in (None, has[first, name, k])
        ])
        counting = {(name, k): [
            (first, second) for first, second in checking(name, k)
            if self.heard(now, first, ("complaint", name, k, self.servers.index(second)))
        ] for name, k in alive}
        alarmed = [place for place in alive if counting[place]]
        involved = {place: sorted({holder for pair in counting[place] for holder in pair}) for place in alarmed}
        claims = self.deliver([
            (holder, "", ("claim", name, k, has[holder, name, k]))
            for name, k in alarmed for holder in involved[name, k]
        ])
        now = self.deliver([(name[0], "", ("share", name, k, dealings[name][k])) for name, k in alarmed])
        for name, k in alarmed:
            self.incident = True
            claimed = {holder: self.accept(claims, holder, "", "claim", name, k) for holder in involved[name, k]}
            final = self.accept(now, name[0], "", "share", name, k)
            if final is None:
                dead.add(name)
            for holder in self.active(k):
                has[holder, name, k] = final
            for holder, number in claimed.items():
                if number is None:
                    self.caught.add(holder)
                elif final is not None and number != final:
                    self.quarrelled.add(tuple(sorted((holder, name[0]))))
            for first, second in counting[name, k]:
                if claimed[first] is not None and claimed[first] == claimed[second]:
                    self.quarrelled.add(tuple(sorted((first, second))))
        self.caught |= {name[0] for name in dead}
        for name, k in where:
            for holder in self.holders[k]:
                if name in dead or holder in self.out:
                    has[holder, name, k] = 0
        return has, dead

    # operations

    def keep(self, key, shares, expected):
        """shares: a dict from (holder, k) to numbers."""
        self.shares[key] = shares
        self.expected[key] = expected % self.prime

    def honest(self, shares):
        total = 0
        for k in range(self.count):
            numbers = {shares[holder, k] for holder in self.holders[k] if holder not in self.faulty}
            if len(numbers) != 1:
                raise AssertionError("the honest holders differ")
            total += numbers.pop()
        return total

    def places(self):
        return [(holder, k) for k in range(self.count) for holder in self.holders[k]]

    def store(self, client, key, value, *, overrides=()):
        self.begin(overrides)
        if client in self.exposed:
            for _ in range(5):
                self.deliver([])
            shares = {place: 0 for place in self.places()}
        else:
            has, _ = self.deal({(client,): self.split(value, self.draw(client))})
            shares = {(holder, k): has[holder, (client,), k] for holder, k in self.places()}
        self.keep(key, shares, self.honest(shares) if client in self.faulty else value)
        self.end()

    def add(self, client, key, first, second, *, overrides=()):
        self.begin(overrides)
        one, two = self.shares[first], self.shares[second]
        shares = {place: (one[place] + two[place]) % self.prime for place in self.places()}
        self.keep(key, shares, self.expected[first] + self.expected[second])
        self.end()

    def scale(self, client, key, factor, first, *, overrides=()):
        self.begin(overrides)
        shares = {place: factor * self.shares[first][place] % self.prime for place in self.places()}
        self.keep(key, shares, factor * self.expected[first])
        self.end()

    def report(self, key, recipient):
        """The round of a read or a publication: what is accepted from whom, for each share."""
        now = self.deliver([
            (holder, recipient, ("report", k, self.shares[key][holder, k]))
            for k in range(self.count) for holder in self.active(k)
        ])
        return [
            {holder: self.accept(now, holder, recipient, "report", k) for holder in self.active(k)}
            for k in range(self.count)
        ]

    def read(self, client, key, *, overrides=()):
        self.begin(overrides)
        rows = self.report(key, client)
        correct = [self.correct(k, row) for k, row in enumerate(rows)]
        wrong = {
            holder for row, number in zip(rows, correct) for holder in row if row[holder] not in (None, number)
        }
        self.end()
        return None if client in self.faulty else (sum(correct) % self.prime, tuple(sorted(wrong)))

    def publish(self, client, key, *, overrides=()):
        self.begin(overrides)
        rows = self.report(key, "")
        correct = [self.correct(k, row) for k, row in enumerate(rows)]
        for row, number in zip(rows, correct):
            self.caught |= {holder for holder in row if row[holder] != number}
        self.end()
        return sum(correct) % self.prime

    def ask(self, now, k, *parts):
        """The correct value of a broadcast of the holders of a share; exposes those who differ."""
        reports = {holder: self.accept(now, holder, "", *parts) for holder in self.active(k)}
        number = self.correct(k, reports)
        self.caught |= {holder for holder in reports if reports[holder] != number}
        return number

    def multiply(self, client, key, first, second, *, overrides=()):
        self.begin(overrides)
        every = range(self.count)
        left, right = self.shares[first], self.shares[second]
        dealings = {}
        for a, b in itertools.product(every, every):
            for dealer in sorted(set(self.active(a)) & set(self.active(b))):
                dealings[dealer, a, b] = self.split(left[dealer, a] * right[dealer, b], self.draw(dealer))
        has, dead = self.deal(dealings)
        unfit = {name[0] for name in dead}
        remaining = {
            (a, b): [name for name in dealings if name[1:] == (a, b) and name[0] not in unfit]
            for a, b in itertools.product(every, every)
        }
        code = self.servers.index

        now = self.deliver([
            (holder, "", ("difference", a, b, code(name[0]), k,
                          (has[holder, name, k] - has[holder, names[0], k]) % self.prime))
            for (a, b), names in remaining.items() for name in names[1:] for k in every for holder in self.active(k)
        ])
        opened = []
        for (a, b), names in remaining.items():
            sums = [sum(self.ask(now, k, "difference", a, b, code(name[0]), k) for k in every) for name in names[1:]]
            if any(total % self.prime for total in sums):
                opened.append((a, b))

        required = []
        for a, b in opened:
            required.extend((holder, "", ("left", a, b, left[holder, a])) for holder in self.active(a))
            required.extend((holder, "", ("right", a, b, right[holder, b])) for holder in self.active(b))
            required.extend(
                (holder, "", ("dealt", a, b, code(name[0]), k, has[holder, name, k]))
                for name in remaining[a, b] for k in every for holder in self.active(k)
            )
        now = self.deliver(required)
        self.incident |= bool(opened)
        shares = {place: 0 for place in self.places()}
        for a, b in itertools.product(every, every):
            known = None
            if (a, b) in opened:
                known = self.ask(now, a, "left", a, b) * self.ask(now, b, "right", a, b) % self.prime
                for name in remaining[a, b]:
                    total = sum(self.ask(now, k, "dealt", a, b, code(name[0]), k) for k in every)
                    if total % self.prime != known:
                        self.caught.add(name[0])
            for holder, k in shares:
                if known is None:
                    part = has[holder, remaining[a, b][0], k]
                else:
                    part = known if k == 0 and holder not in self.out else 0
                shares[holder, k] = (shares[holder, k] + part) % self.prime
        self.keep(key, shares, self.expected[first] * self.expected[second])
        self.end()

    # queries, as the network has them

    def shares_at(self, server, key):
        return tuple(self.shares[key].get((server, k)) for k in range(self.count))

    def view(self, observers):
        watching = set(observers) | {""}
        seen = tuple(row for row in self.log if row[2] in watching or row[3] in watching)
        return seen, tuple((party, tuple(self.used[party])) for party in observers)
