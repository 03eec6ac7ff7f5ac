"""Whole piles that have all letters of a pile: its gaps filled in all ways that can count, or wildly."""

import itertools

from plain import named, slow_gaps


def deeds_of_events(town, house, deal):
    """The deeds by which letters of a house in a deal are events that some clause of the town names."""
    found = set()
    for called, (houses, others, _, clauses) in town[1].items():
        for event in [event for clause in clauses for event in clause[4] + clause[5][:1]]:
            there = others[event[1] - 1] if event[0] == "did" and event[1] else called
            if there != deal:
                continue
            if event[0] == "did":
                found.add(("do",) + event[2:])
            elif house == houses[event[1]]:
                found.add(("join",) if event[0] == "joined" else ("say", event[2]))
    return found


def deeds_that_count(town, house, deal):
    """All deeds of a house in a deal that letters of other rows can hang on in the town."""
    if deal not in town[1] or house not in town[1][deal][0]:
        return []
    found = deeds_of_events(town, house, deal)
    houses, others, close, clauses = town[1][deal]
    for c, clause in enumerate(clauses):
        debtor, creditor = houses[clause[0]], houses[clause[1]]
        found.add(("free", c))
        if house == debtor:
            found |= {("hand", c, other) for other in houses if other != house}
        elif house != creditor:
            found.add(("ready", c))
    return sorted(found)


def fill(pile, chosen, is_begun):
    """A whole pile: behind each gap letters with the deeds chosen for it, in a row with a beginning or without."""
    letters = named(pile)
    taken = set(letters) | set(slow_gaps(pile))
    for gap in slow_gaps(pile):
        house, deal, nr = gap
        free = (at for at in itertools.count(1) if (house, deal, at) not in taken)
        deeds = list(chosen.get(gap, [])) or [("note",)]
        nrs = [nr] + list(itertools.islice(free, len(deeds) - 1))
        taken |= {(house, deal, at) for at in nrs}
        for own, prev, deed in zip(nrs, nrs[1:] + [0 if is_begun else nrs[-1]], deeds):
            letters[(house, deal, own)] = (house, deal, own, prev, (), 0, deed)
    return [letters[name] for name in sorted(letters)]


def bits(town, pile):
    """How many deeds can count behind all gaps of a pile."""
    return sum(len(deeds_that_count(town, *gap[:2])) for gap in slow_gaps(pile))


def subsets(things):
    return [some for many in range(len(things) + 1) for some in itertools.combinations(things, many)]


def fillings(town, pile):
    """Whole piles: behind each gap any of the deeds that can count, in rows with a beginning or without."""
    missing = slow_gaps(pile)
    for chosen in itertools.product(*[subsets(deeds_that_count(town, *gap[:2])) for gap in missing]):
        for is_begun in (True, False):
            yield fill(pile, dict(zip(missing, chosen)), is_begun)


def wild(pile, deeds, chance):
    """A whole pile: each gap, and each new one that comes of it, filled by a letter with anything in it."""
    letters = named(pile)
    while slow_gaps(list(letters.values())):
        gap = chance.choice(slow_gaps(list(letters.values())))
        own = [name[2] for name in letters if name[:2] == gap[:2]]
        prev = chance.choice([0, 0, gap[2], chance.randint(1, 9)] + own[:3])
        others = sorted(name for name in letters if name[:2] != gap[:2])
        gots = tuple(sorted(chance.sample(others, min(len(others), chance.randint(0, 2)))))
        letters[gap] = gap + (prev, gots, chance.randint(0, 12), chance.choice(deeds))
    return list(letters.values())


def own_deeds(chance, town, house):
    """Deeds of a row in sale, of a house that has something to do with the first clause: its start is among them."""
    houses, others, close, clauses = town[1]["sale"]
    debtor, creditor, parts = clauses[0][:3]
    more = [("do", 0, p) for p in range(parts)] * 2 + [("note",), ("say", "go"), ("say", "no"), ("quit", 0)]
    if house == houses[debtor]:
        more += [("hand", 0, chance.choice(houses)), ("quit", 0)]
    deeds = [chance.choice(more) for _ in range(chance.randint(2, 5))]
    deeds.insert(chance.randint(0, 1), ("join",) if house == houses[debtor] else ("ready", 0))
    return deeds


def gappy(maker, town, lost):
    """A row in sale that gets letters of other rows, with deeds that count for it; so many of these are lost."""
    chance = maker.chance
    house = chance.choice(maker.HOUSES)
    others = []
    for pair in [(other, deal) for other in maker.HOUSES for deal in ("sale", "rent") if (other, deal) != (house, "sale")]:
        deeds = deeds_that_count(town, *pair) + [("note",)]
        for nr in range(1, chance.choice([0, 1, 2, 3]) + (pair[1] == "sale") + 1):
            others.append(pair + (nr, nr - 1, (), 0, chance.choice(deeds)))
    chance.shuffle(others)
    time = 0
    pile = others[lost:]
    for nr, deed in enumerate(own_deeds(chance, town, house), start=1):
        time += chance.choice([0, 0, 1, 2])
        got = chance.sample(others, min(len(others), chance.choice([0, 1, 1, 2])))
        pile.append((house, "sale", nr, nr - 1, tuple(sorted(one[:3] for one in got)), time, deed))
    return pile
