"""The plain reading and the marks, word by word as they are told and slowly: what the program is held against."""

import random


def named(pile):
    return {one[:3]: one for one in pile}


def slow_row(pile, own):
    letters = named(pile)
    found = []
    while own in letters and letters[own] not in found:
        found.insert(0, letters[own])
        own = own[:2] + (letters[own][3],)
    return found


def slow_gaps(pile):
    letters = named(pile)
    asked = {one[:2] + (one[3],) for one in pile if one[3]} | {got for one in pile for got in one[4]}
    return sorted(asked - set(letters))


class Plain:
    """All that the reading of one letter asks, each told anew by what is seen."""

    def __init__(self, town, pile, own):
        self.town, self.pile, self.own = town, pile, own
        self.x, self.called = own[:2]
        self.row = slow_row(pile, own)
        self.n = len(self.row)
        self.is_read = self.called in town[1] and bool(self.row) and self.row[0][3] == 0
        if self.is_read:
            self.houses, self.others, self.close, self.clauses = town[1][self.called]
            self.by_place = []
            found = set()
            for one in self.row:
                found = found | {one} | {other for got in one[4] for other in slow_row(pile, got)}
                self.by_place.append(found)

    def first(self, is_such):
        """The first place by which such a letter is seen."""
        for place, found in enumerate(self.by_place, start=1):
            if any(is_such(one) for one in found):
                return place
        return None

    def first_of(self, house, deed):
        return self.first(lambda one: one[0] == house and one[1] == self.called and one[6] == deed)

    def own_first(self, deed):
        places = [place for place, one in enumerate(self.row, start=1) if one[6] == deed]
        return places[0] if places else None

    def event(self, event):
        if event[0] == "joined":
            return self.first_of(self.houses[event[1]], ("join",))
        if event[0] == "said":
            return self.first_of(self.houses[event[1]], ("say", event[2]))
        k, c, p = event[1:]
        there = self.others[k - 1] if k else self.called
        houses, others, close, clauses = self.town[1][there]
        creditor = houses[clauses[c][1]]
        return self.first(lambda one: one[1] == there and one[0] in houses and one[0] != creditor
                          and one[6] == ("do", c, p))

    def begin(self, c):
        if not self.is_read or c >= len(self.clauses):
            return None
        debtor = self.houses[self.clauses[c][0]]
        if self.x == debtor:
            places = [self.own_first(("join",))]
        elif self.x in self.houses:
            places = [self.own_first(("ready", c)), self.first_of(debtor, ("hand", c, self.x))]
        else:
            return None
        places += [self.event(event) for event in self.clauses[c][4]]
        if any(place is None for place in places):
            return None
        return max(places) if self.row[max(places) - 1][5] <= self.close else None

    def due(self, c):
        return self.row[self.begin(c) - 1][5] + self.clauses[c][3]

    def kept(self, c):
        for p in range(self.clauses[c][2]):
            places = range(self.begin(c), self.n + 1)
            if not [at for at in places if self.row[at - 1][6] == ("do", c, p) and self.row[at - 1][5] <= self.due(c)]:
                return False
        return True

    def good_quit(self, c, at):
        leave = self.clauses[c][5]
        if leave == () or self.row[at - 1][6] != ("quit", c) or self.begin(c) is None or at < self.begin(c):
            return False
        if self.row[at - 1][5] < self.row[self.begin(c) - 1][5] + leave[1]:
            return False
        seen = self.event(leave[0])
        return seen is None or seen > at

    def ended(self, c):
        debtor, creditor = self.houses[self.clauses[c][0]], self.houses[self.clauses[c][1]]
        if self.first_of(creditor, ("free", c)) is not None:
            return True
        if self.x == debtor and [one for one in self.row if one[6][:2] == ("hand", c)]:
            return True
        return any(self.good_quit(c, at) for at in range(1, self.n + 1))

    def ill(self):
        deed = self.row[-1][6]
        ahead = [one[6] for one in self.row[:-1]]
        if deed[0] in ("say", "note"):
            return False
        if deed[0] == "join":
            return self.x not in self.houses or ("join",) in ahead
        c = deed[1]
        if c >= len(self.clauses):
            return True
        debtor, creditor = self.houses[self.clauses[c][0]], self.houses[self.clauses[c][1]]
        handed = bool([other for other in ahead if other[:2] == ("hand", c)])
        if deed[0] == "do":
            return deed[2] >= self.clauses[c][2] or self.begin(c) is None or handed
        if deed[0] == "free":
            return self.x != creditor
        if deed[0] == "ready":
            return self.x not in self.houses or self.x in (debtor, creditor) or deed in ahead
        if deed[0] == "quit":
            return not self.good_quit(c, self.n)
        to = deed[2]
        return (self.x != debtor or ("join",) not in ahead or handed or to in (self.x, creditor)
                or to not in self.houses or self.first_of(to, ("ready", c)) is None)

    def claims(self):
        if not self.is_read:
            return []
        found = [("ill", self.own)] if self.ill() else []
        for c in range(len(self.clauses)):
            if self.begin(c) is None:
                continue
            if self.kept(c):
                found.append(("kept", self.own, c))
            elif not self.ended(c) and self.row[-1][5] <= self.due(c):
                found.append(("held", self.own, c, self.due(c)))
            elif not self.ended(c):
                found.append(("late", self.own, c))
        return found


def slow_marks(town, pile, comings):
    letters = named(pile)
    found = set()
    for own, one in letters.items():
        ahead = own[:2] + (one[3],)
        if ahead in letters and one[5] < letters[ahead][5]:
            found.add(("back", own))
        for other in letters:
            if other[:2] == own[:2] and own < other and letters[other][3] == one[3]:
                found.add(("twin", own, other))
        step = ahead
        for _ in letters:
            if step == own:
                found.add(("loose", own))
            if step in letters:
                step = step[:2] + (letters[step][3],)
        for got in one[4]:
            if got[0] == "bell" and got in letters and letters[got][5] > one[5] + town[0]:
                found.add(("behind", own))
        if own in comings and one[5] > comings[own] + town[0]:
            found.add(("ahead", own))
    return found


def slow_read(town, pile, comings):
    found = slow_marks(town, pile, comings)
    for own in named(pile):
        found |= set(Plain(town, pile, own).claims())
    return sorted(found)


class PileMaker:
    """Makes small towns and piles by a seed, so that a test meets the same ones at each run."""

    HOUSES = ("ann", "bob", "cid")

    def __init__(self, seed):
        self.chance = random.Random(seed)

    def event(self, own, parts, other_parts):
        """An event for clause own of a deal whose clauses have so many parts; other_parts are those of its other."""
        choices = [("joined", self.chance.randrange(3))]
        choices += [("said", self.chance.randrange(3), self.chance.choice(["go", "no"]))] * 2
        choices += [("did", 0, c, self.chance.randrange(parts[c])) for c in range(len(parts)) if c != own][:1]
        choices += [("did", 1, c, self.chance.randrange(other_parts[c])) for c in range(len(other_parts))][:1]
        return self.chance.choice(choices)

    def deal(self, others, other_parts, most):
        """A deal, and the parts of its clauses."""
        parts = [self.chance.choice([1, 1, 2]) for _ in range(self.chance.randint(1, most))]
        clauses = []
        for own in range(len(parts)):
            debtor, creditor = self.chance.sample(range(3), 2)
            many = self.chance.choice([0, 1, 1, 2, 2, 3])
            events = sorted({self.event(own, parts, other_parts) for _ in range(many)}, key=str)
            self.chance.shuffle(events)
            leave = (events.pop(), self.chance.randint(1, 3)) if events and self.chance.random() < 0.6 else ()
            clauses.append((debtor, creditor, parts[own], self.chance.randint(1, 6), tuple(events), leave))
        return (self.HOUSES, others, self.chance.choice([2, 4, 6, 20]), tuple(clauses)), parts

    def town(self, most=3):
        rent, parts = self.deal((), [], 1)
        sale, _ = self.deal(("rent",), parts, most)
        return (self.chance.randint(0, 2), {"sale": sale, "rent": rent})

    def deed(self, town, house, called):
        """A deed, mostly one that the house has reason to do."""
        houses, others, close, clauses = town[1].get(called, town[1]["sale"])
        c = self.chance.randrange(len(clauses) + (self.chance.random() < 0.03))
        to = self.chance.choice(houses)
        deeds = [("join",), ("note",), ("say", "go"), ("say", "go"), ("say", "no")]
        if c == len(clauses) or self.chance.random() < 0.15:
            more = [("do", c, 0), ("do", c, 1), ("free", c), ("ready", c), ("hand", c, to), ("quit", c)]
        elif house == houses[clauses[c][0]]:
            more = [("do", c, 0)] * 4 + [("do", c, 1)] * 2 + [("hand", c, to)] * 3 + [("quit", c)] * 3
        elif house == houses[clauses[c][1]]:
            more = [("free", c)]
        else:
            more = [("ready", c)] * 4 + [("do", c, 0)] * 4 + [("do", c, 1)] + [("quit", c)] * 2
        return self.chance.choice(deeds + more)

    def whole(self, town, size):
        """A whole pile, most of it in good order."""
        pile = []
        tips = {}
        time = 0
        for _ in range(size):
            house = self.chance.choice(self.HOUSES * 6 + ("bell", "eve"))
            called = self.chance.choice(["sale"] * 16 + ["rent"] * 3 + ["lost"])
            known = [own for own in named(pile) if own[:2] != (house, called)]
            gots = tuple(sorted(self.chance.sample(known, min(len(known), self.chance.choice([0, 1, 1, 2, 3])))))
            nr = 1 + max([own[2] for own in named(pile) if own[:2] == (house, called)], default=0)
            prev = tips.get((house, called), 0)
            if self.chance.random() < 0.06:
                prev = self.chance.randint(0, nr)
                prev = prev if prev in (0, nr) or (house, called, prev) in named(pile) else 0
            time += self.chance.choice([0, 0, 1, 1, 2])
            own_time = max(0, time + self.chance.choice([0] * 12 + [-2, 3]))
            deed = self.deed(town, house, called)
            if (house, called) not in tips and self.chance.random() < 0.8:
                deed = ("join",)
            pile.append((house, called, nr, prev, gots, own_time, deed))
            tips[(house, called)] = nr
        return pile

    def comings(self, pile):
        return {one[:3]: max(0, one[5] + self.chance.choice([-4, -1, 0, 1, 5]))
                for one in pile if self.chance.random() < 0.7}

    def some(self, pile, lost):
        """Some letters of a pile, so many of them lost, the rest in any order, one perhaps twice."""
        kept = self.chance.sample(pile, max(0, len(pile) - lost))
        return kept + kept[:self.chance.randint(0, 1)]
