"""A keeper told word by word and slowly, and a road on which letters are lost, late, doubled and out of order."""

from holdword.keepers import Keeper
from plain import Plain, PileMaker, named, slow_row


class SlowKeeper:
    """What a keeper does, each thing told anew by all letters that are there."""

    def __init__(self, town, house):
        self.town, self.house = town, house
        self.own = []
        self.others = []

    def came(self, one):
        if one[0] != self.house:
            self.others.append(one)

    def known(self):
        return self.own + [one for one in named(self.others).values() if slow_row(self.others, one[:3])[0][3] == 0]

    def draft(self, deal, time, deed):
        known = self.known()
        there = [one for one in self.own if one[1] == deal]
        met = [one for mine in there for got in mine[4] for one in slow_row(known, got)]
        gots = [one[:3] for one in known if one not in there and one not in met
                and not [other for other in known if other[:2] == one[:2] and other[3] == one[2]]]
        return (self.house, deal, len(there) + 1, len(there), tuple(sorted(gots)[:30]), time, deed)

    def write(self, deal, time, deed):
        one = self.draft(deal, time, deed)
        known = self.known()
        read = Plain(self.town, known + [one], one[:3])
        broken = [claim for claim in read.claims() if claim[0] in ("ill", "late")]
        back = [other for other in self.own if other[1] == deal and other[5] > time]
        behind = [other for other in known if other[0] == "bell" and other[:3] in one[4] and other[5] > time + self.town[0]]
        if broken or back or behind:
            return None
        self.own.append(one)
        return one

    def owed(self, time):
        found = []
        for deal in self.town[1]:
            there = [one for one in self.own if one[1] == deal]
            if there:
                read = Plain(self.town, self.known(), there[-1][:3])
                for claim in read.claims():
                    if claim[0] == "held" and claim[3] <= time:
                        c, due = claim[2:]
                        done = [one[6] for one in read.row[read.begin(c) - 1:] if one[5] <= due]
                        found += [(deal, c, p, due) for p in range(read.clauses[c][2]) if ("do", c, p) not in done]
        return sorted(found)

    def letters(self):
        return sorted(self.own)


class Road:
    """Houses, some with keepers whose clocks are off by no more than the span, the others lying, and bell."""

    def __init__(self, seed):
        self.maker = PileMaker(seed)
        self.chance = self.maker.chance
        self.town = self.maker.town()
        kept = self.chance.sample(PileMaker.HOUSES, self.chance.randint(1, 3))
        self.keepers = {house: Keeper(self.town, house) for house in kept}
        self.slow = {house: SlowKeeper(self.town, house) for house in kept}
        self.now = 0
        self.written = []
        self.under_way = []
        self.comings = {}
        self.refused = 0

    def deed_of(self, house, deal):
        owed = [("do", c, p) for there, c, p, due in self.keepers[house].owed(10 ** 9) if there == deal]
        if owed and self.chance.random() < 0.5:
            return self.chance.choice(owed)
        return self.maker.deed(self.town, house, deal)

    def keeper_writes(self, house):
        """What the keeper and the slow one write; both must be alike."""
        span = self.town[0]
        time = max(0, self.now + self.chance.randint(-span, span))
        deal = self.chance.choice(["sale"] * 6 + ["rent", "rent", "lost"])
        there = [one for one in self.keepers[house].letters() if one[1] == deal]
        deed = self.deed_of(house, deal) if there or self.chance.random() < 0.1 else ("join",)
        found = (self.keepers[house].write(deal, time, deed), self.slow[house].write(deal, time, deed))
        self.refused += found[0] is None
        return found

    def liar_writes(self, house):
        """A letter of a house that may follow on anything, and got anything."""
        deal = self.chance.choice(["sale"] * 6 + ["rent", "lost"])
        mine = [one for one in self.written if one[:2] == (house, deal)]
        nr = len(mine) + 1
        prev = self.chance.choice([nr - 1] * 8 + [0, nr, self.chance.randint(0, nr + 2)])
        others = [one[:3] for one in self.written if one[:2] != (house, deal)] + [("eve", "sale", 9)]
        gots = tuple(sorted(self.chance.sample(others, min(len(others), self.chance.randint(0, 2)))))
        time = self.now if house == "bell" else max(0, self.now + self.chance.randint(-4, 4))
        deed = ("join",) if nr == 1 and self.chance.random() < 0.7 else self.maker.deed(self.town, house, deal)
        return (house, deal, nr, prev, gots, time, deed)

    def send(self, one):
        self.written.append(one)
        for house in self.keepers:
            for _ in range(self.chance.choice([0, 1, 1, 1, 2])):
                self.under_way.append((self.now + self.chance.choice([0, 0, 1, 2, 6]), house, one))
        if self.chance.random() < 0.9:
            self.comings[one[:3]] = self.now + self.chance.choice([0, 0, 1, 7])

    def bring(self):
        here = [sent for sent in self.under_way if sent[0] <= self.now]
        self.under_way = [sent for sent in self.under_way if sent[0] > self.now]
        self.chance.shuffle(here)
        for _, house, one in here:
            self.keepers[house].came(one)
            self.slow[house].came(one)

    def step(self):
        """One house writes; told is who, and what its keeper and the slow one wrote, or None where it has none."""
        self.now += self.chance.choice([0, 0, 1, 1, 2])
        self.bring()
        house = self.chance.choice(PileMaker.HOUSES * 4 + ("bell",))
        found = self.keeper_writes(house) if house in self.keepers else None
        one = self.liar_writes(house) if found is None else found[0]
        if one is not None:
            self.send(one)
        return house, found
