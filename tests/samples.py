"""Things that several tests build on."""

import random
import unittest

# Things of many kinds; none of them is a word, a deal, a town, a deed, a letter or a pile.
ODDITIES = [
    None, True, False, 0, 1, -1, 7, 10 ** 29, "", " ", "\n", "A", "a b", "a1", "a-b", "abcdefghijklm", b"", b"abc",
    (), ((),), (None,), (1,), ("a",), (True, False), ([],), ({},), (("a",), ("b",)), ("a", "b", 1), ("a", "b", 0),
    [None], [1], ["a"], [[]], [()], [("a",)], {}, {"a": 1}, {1: "a"}, {None: ()}, {(): ()}, set(), {"a"}, {1, 2},
    frozenset(), frozenset({"a"}), range(3), object(), len, int, Exception(), (0, []), (0, ()), (0, None),
    (0, set()), (0, "ab"), ({}, 0), (True, {}), (-1, {}), ("0", {}), (None, {}), (0, {}, 0), [0, {}],
]


def nested(wrap, depth):
    """Tell a thing that many deep in others of its kind."""
    thing = wrap()
    for _ in range(depth):
        thing = wrap(thing)
    return thing


def in_tuple(*things):
    return tuple(things)


def in_list(*things):
    return list(things)


def in_dict(*things):
    return {"a": thing for thing in things}


DEEP = [nested(wrap, 59) for wrap in (in_tuple, in_list, in_dict)]
ANYTHING = ODDITIES + DEEP


def at(thing, path, value):
    """Tell the thing, of tuples, with another value at the path of places."""
    if not path:
        return value
    first, *rest = path
    return thing[:first] + (at(thing[first], rest, value),) + thing[first + 1:]


# Things that stand nowhere for a whole number; -1 is below every bound.
NO_NUMBERS = [True, False, None, -1, "1", "", b"1", (), (1,), [], [1], {}, {1}, object()]
NO_WORDS = [None, True, 0, "", "A", "Ab", "aB", "a1", "a b", " a", "a ", "a\n", "\n", "a.", "a_", "a:", "{", "`",
            "abcdefghijklm", b"a", ("a",), ["a"], {"a"}, {"a": 1}, object()]


class Checks(unittest.TestCase):
    """Tests of what tells True or False, and nothing that only counts as such."""

    def yes(self, told, why=None):
        self.assertIs(told, True, why)

    def no(self, told, why=None):
        self.assertIs(told, False, why)


def letter(house, nr, prev=0, gots=(), deal="sale", deed=("note",), time=0):
    """Tell a letter with plain values where nothing else is told."""
    return (house, deal, nr, prev, gots, time, deed)


def line(house, *steps, deal="sale"):
    """Tell a row of letters, nrs from 1, each by a time, a deed and perhaps the names that it got."""
    return [letter(house, nr, nr - 1, tuple(sorted(gots)), deal, deed, time)
            for nr, (time, deed, *gots) in enumerate(steps, start=1)]


def name(house, nr, deal="sale"):
    return (house, deal, nr)


JOIN = ("join",)
NOTE = ("note",)
GO = ("say", "go")


def clause(debtor=0, creditor=1, parts=1, within=5, conds=(), leave=()):
    return (debtor, creditor, parts, within, tuple(conds), leave)


def town_of(*clauses, close=100, span=0, others=None):
    """Tell a town whose deal sale is of ann, bob, cid and dan, with the clauses; others are deals that it knows of."""
    others = others or {}
    return (span, {"sale": (("ann", "bob", "cid", "dan"), tuple(others), close, clauses), **others})


ANN = name("ann", 1)
# Things that are nearly claims.
NO_CLAIMS = [("held", ANN), ("held", ANN, 0), ("held", ANN, True, 6), ("held", ANN, 0, True), ("held", ANN, 0, -1),
             ("held", ANN, 12, 6), ("held", list(ANN), 0, 6), ("kept", ANN), ("kept", ANN, 12), ("kept", ANN, False),
             ("late", ANN, -1), ("ill",), ("ill", ANN, 0), ("ill", "ann"), ("twin", ANN), ("twin", ANN, 3), ("broke", ANN),
             ("ill", ("ann", "sale", 0)), ("ill", ("ann", "sale", True)), ("ill", ("Ann", "sale", 1)), ["ill", ANN],
             ("held", ANN, "0", 6), ("back", ("ann", "sale")), ("ahead", ("ann", "sale", 1, 1))]


def claims_on(names, clauses=(0, 1, 11), dues=(0, 6, 51)):
    """Claims of all forms on the names."""
    found = [(word, own) for own in names for word in ("ill", "back", "loose", "behind", "ahead")]
    found += [(word, own, c) for own in names for c in clauses for word in ("kept", "late")]
    found += [("held", own, c, due) for own in names for c in clauses for due in dues]
    return found + [("twin", own, other) for own in names for other in names]


# A clause with nothing to spare, and a town of several deals with all that deals can have.
PLAIN = (0, 1, 1, 1, (), ())
DEAL = (
    ("ann", "bob", "cid"),
    ("rent",),
    40,
    (
        (0, 1, 2, 5, (("joined", 1), ("said", 2, "go"), ("did", 1, 1, 2)), (("did", 0, 1, 0), 3)),
        (1, 2, 1, 9, (("did", 0, 0, 1),), ()),
        (2, 0, 9, 4, (), (("said", 0, "stop"), 1)),
    ),
)
RENT = (("dan", "ann"), (), 0, ((0, 1, 1, 1, (), ()), (1, 0, 3, 7, (("joined", 0),), (("joined", 1), 12))))
TOWN = (6, {"sale": DEAL, "rent": RENT})
NAMES = {"sale": ("pay", "ship", "thank"), "rent": ("key", "coin")}
SHOWN = """span 6
deal sale
houses ann bob cid
others rent
close 40
pay: ann to bob 2 parts within 5 if bob joined and cid said go and did rent.coin 3 leave after 3 unless did ship 1
ship: bob to cid 1 parts within 9 if did pay 2
thank: cid to ann 9 parts within 4 leave after 1 unless ann said stop
deal rent
houses dan ann
close 0
key: dan to ann 1 parts within 1
coin: ann to dan 3 parts within 7 if dan joined leave after 12 unless ann joined"""

WORDS = ["a", "b", "bell", "house", "word", "z", "abcdefghijkl", "span" + "x", "pay", "go", "no", "yes", "dealer"]


class Maker:
    """Makes towns by a seed, so that a test meets the same ones at each run."""

    def __init__(self, seed):
        self.chance = random.Random(seed)

    def words(self, least, most, barred=()):
        many = self.chance.randint(least, most)
        return tuple(self.chance.sample([word for word in WORDS if word not in barred], many))

    def number(self, least):
        return self.chance.choice([least, least + 1, self.chance.randint(least, 99), 10 ** 29])

    def event(self, own, houses, others, parts):
        sort = self.chance.choice(["joined", "said", "did", "did"])
        if sort == "joined":
            return ("joined", self.chance.randrange(houses))
        if sort == "said":
            return ("said", self.chance.randrange(houses), self.chance.choice(WORDS))
        k = self.chance.randint(0, len(others))
        there = parts[others[k - 1]] if k else parts[None]
        choices = [c for c in range(len(there)) if k or c != own]
        if not choices:
            return ("joined", self.chance.randrange(houses))
        c = self.chance.choice(choices)
        return ("did", k, c, self.chance.randrange(there[c]))

    def clause(self, own, houses, others, parts):
        debtor, creditor = self.chance.sample(range(houses), 2)
        events = {self.event(own, houses, others, parts) for _ in range(self.chance.randint(0, 9))}
        events = self.chance.sample(sorted(events, key=str), len(events))
        leave = ()
        if events and (len(events) > 8 or self.chance.random() < 0.5):
            leave = (events.pop(), self.number(1))
        return (debtor, creditor, parts[None][own], self.number(1), tuple(events), leave)

    def town(self):
        called = self.words(0, 5)
        parts = {name: [self.chance.randint(1, 9) for _ in range(self.chance.randint(1, 12))] for name in called}
        deals = {}
        names = {}
        for name in called:
            houses = self.words(2, 8, ("bell",))
            others = tuple(self.chance.sample([other for other in called if other != name],
                                              self.chance.randint(0, min(4, len(called) - 1))))
            here = dict(parts)
            here[None] = parts[name]
            clauses = tuple(self.clause(c, len(houses), others, here) for c in range(len(parts[name])))
            deals[name] = (houses, others, self.number(0), clauses)
            names[name] = self.words(len(clauses), len(clauses))
        return (self.number(0), deals), names
