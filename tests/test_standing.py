import copy
import itertools
import unittest

from fillings import gappy
from holdword.deals import end_of
from holdword.judging import told
from holdword.perhaps import begins
from holdword.reading import read
from holdword.standing import standing, takers
from plain import Plain, PileMaker, named, slow_row
from samples import GO, JOIN, NOTE, clause, letter, line, name, town_of

ANN = name("ann", 1)
BOB = name("bob", 1)
GAP = name("bob", 5)


def slow_standing(town, pile, comings, now):
    """Who stands where, word by word as it is told."""
    sure = told(town, pile, comings)
    tips = [one[:3] for one in named(pile).values()
            if not [other for other in pile if other != one and other[:2] == one[:2] and other[3] == one[2]]]
    found = []
    for deal, house, c in {(tip[1], tip[0], c) for tip in tips for c in range(12)}:
        ours = [claim for claim in sure if claim[1] in tips and claim[1][:2] == (house, deal) and claim[2:3] == (c,)]
        if [claim for claim in ours if claim[0] == "late"]:
            found.append((deal, house, c, "late"))
        elif [claim for claim in ours if claim[0] == "held" and claim[3] + town[0] < now]:
            found.append((deal, house, c, "silent"))
        elif [claim for claim in ours if claim[0] == "held"]:
            found.append((deal, house, c, "held"))
    return sorted(found)


def handing(maker):
    """A town and a whole pile in which clauses are handed on, some well and some to several houses."""
    chance = maker.chance
    conds = chance.choice([[], [("said", 1, "go")], [("joined", 2)]])
    town = town_of(clause(conds=conds), clause(2, 0, within=2), close=chance.choice([12, 100]))
    houses = town[1]["sale"][0]
    pile, last = [], {}
    for time in range(chance.randint(12, 24)):
        house = chance.choice(houses)
        c = chance.randrange(2)
        nr = last.get(house, 0) + 1
        deeds = [("ready", c)] * 4 + [NOTE, GO, JOIN, ("do", c, 0)]
        deeds = [JOIN] if nr == 1 and house in ("ann", "cid") else deeds
        if nr > 1 and house == houses[2 * c]:
            deeds += [("hand", c, chance.choice(["cid", "dan", "dan"] if c == 0 else ["bob", "dan", "ann"]))] * 9
        deed = chance.choice(deeds)
        prev = chance.choice([nr - 1] * 12 + [chance.randint(0, nr)])
        gots = tuple(sorted(name(other, at) for other, at in last.items() if other != house and chance.random() < 0.7))
        pile.append(letter(house, nr, prev, gots, time=time, deed=deed))
        last[house] = nr
    return town, pile


class Standing(unittest.TestCase):
    def stands(self, town, pile, now, expected):
        for order in [pile, pile[::-1], pile + pile]:
            self.assertEqual(standing(town, order, {}, now), expected)
            self.assertEqual(slow_standing(town, order, {}, now), expected)

    def test_nobody(self):
        self.stands(town_of(clause()), [], 5, [])
        self.stands((3, {}), line("ann", (1, JOIN)), 5, [])
        self.stands(town_of(clause()), line("ann", (1, NOTE)) + line("bob", (1, JOIN)), 5, [])

    def test_held_and_silent(self):
        for span in (0, 3):
            town = town_of(clause(), span=span)
            pile = line("ann", (1, JOIN))
            self.stands(town, pile, 0, [("sale", "ann", 0, "held")])
            self.stands(town, pile, 6 + span, [("sale", "ann", 0, "held")])
            self.stands(town, pile, 7 + span, [("sale", "ann", 0, "silent")])
            self.stands(town, pile, 10 ** 29, [("sale", "ann", 0, "silent")])

    def test_late(self):
        pile = line("ann", (1, JOIN), (7, NOTE))
        for now in (0, 6, 7, 99):
            self.stands(town_of(clause()), pile, now, [("sale", "ann", 0, "late")])
            self.stands(town_of(clause(), span=50), pile, now, [("sale", "ann", 0, "late")])
            # No letter of hers is late by then, so she is silent.
            self.stands(town_of(clause()), pile[:1], now, [("sale", "ann", 0, "silent" if now > 6 else "held")])

    def test_kept_and_ended(self):
        town = town_of(clause())
        self.stands(town, line("ann", (1, JOIN), (2, ("do", 0, 0))), 9, [])
        self.stands(town, line("ann", (1, JOIN), (2, NOTE, BOB)) + line("bob", (1, ("free", 0))), 9, [])
        self.stands(town, line("ann", (1, JOIN), (2, ("hand", 0, "cid"))), 9, [])

    def test_what_another_one_follows_on_is_no_tip(self):
        town = town_of(clause())
        pile = line("ann", (1, JOIN), (2, NOTE, GAP))
        # The last one may be let off through the gap, and the one ahead of it is no tip.
        self.stands(town, pile, 3, [])
        self.stands(town, pile[:1], 3, [("sale", "ann", 0, "held")])
        self.stands(town, pile[:1] + [letter("ann", 2, 1, deal="rent")], 3, [("sale", "ann", 0, "held")])
        self.stands(town, pile[:1] + [letter("bob", 2, 1)], 3, [("sale", "ann", 0, "held")])
        self.stands(town, pile[:1] + [letter("ann", 3, 2), letter("ann", 4, 4)], 3, [("sale", "ann", 0, "held")])

    def test_rows_without_beginning(self):
        town = town_of(clause())
        self.stands(town, [letter("ann", 2, 1, deed=JOIN), letter("ann", 3, 3), letter("ann", 5, 6), letter("ann", 6, 5)], 3, [])

    def test_through_gaps(self):
        town = town_of(clause(conds=[("said", 2, "go")]))
        self.stands(town, line("ann", (1, JOIN, name("cid", 4))), 3, [])
        self.stands(town, line("ann", (1, JOIN, name("cid", 1), name("dan", 4))) + line("cid", (0, GO)), 3,
                    [("sale", "ann", 0, "held")])

    def test_several_tips_of_one_house(self):
        town = town_of(clause(), clause(0, 2, within=9), span=1)
        first = letter("ann", 1, time=1, deed=JOIN)
        held = letter("ann", 2, 1, time=2)
        late = letter("ann", 3, 1, time=7)
        kept = letter("ann", 4, 1, time=3, deed=("do", 0, 0))
        anew = letter("ann", 5, time=4, deed=JOIN)
        other = ("sale", "ann", 1, "held")
        self.stands(town, [first, held], 8, [("sale", "ann", 0, "silent"), other])
        self.stands(town, [first, held, late], 8, [("sale", "ann", 0, "late"), other])
        self.stands(town, [first, held, kept], 8, [("sale", "ann", 0, "silent"), other])
        self.stands(town, [first, kept], 8, [other])
        self.stands(town, [first, held, anew], 8, [("sale", "ann", 0, "silent"), other])
        self.stands(town, [first, kept, anew], 8, [("sale", "ann", 0, "held"), other])
        self.stands(town, [first, late, anew], 99, [("sale", "ann", 0, "late"), ("sale", "ann", 1, "silent")])

    def test_deals_houses_and_clauses_in_order(self):
        rent = (("bob", "ann"), (), 100, (clause(1, 0), clause(within=2)))
        town = town_of(clause(), clause(1, 0), clause(0, 2, within=1), others={"rent": rent})
        pile = line("bob", (1, JOIN)) + line("ann", (1, JOIN), (3, NOTE)) + line("ann", (2, JOIN), deal="rent")
        pile += line("bob", (4, JOIN), deal="rent") + line("ann", (2, JOIN), deal="lost")
        self.stands(town, pile, 7, [("rent", "ann", 0, "held"), ("rent", "bob", 1, "silent"), ("sale", "ann", 0, "silent"),
                                    ("sale", "ann", 2, "late"), ("sale", "bob", 1, "silent")])

    def test_taken_up(self):
        town = town_of(clause())
        pile = [letter("ann", 3, deed=("hand", 0, "cid")), letter("ann", 4, 3, time=9)]
        pile += line("cid", (1, ("ready", 0)), (2, NOTE, name("ann", 3)))
        self.stands(town, pile, 7, [("sale", "cid", 0, "held")])
        self.stands(town, pile, 8, [("sale", "cid", 0, "silent")])

    def test_the_end(self):
        town = town_of(clause(within=5), clause(0, 2, within=9), close=20, span=2)
        self.assertEqual(end_of(town[1]["sale"]), 29)
        pile = line("ann", (20, JOIN))
        self.stands(town, pile, 31, [("sale", "ann", 0, "silent"), ("sale", "ann", 1, "held")])
        self.stands(town, pile, 32, [("sale", "ann", 0, "silent"), ("sale", "ann", 1, "silent")])
        self.stands(town, line("ann", (21, JOIN)), 0, [])

    def test_made_piles(self):
        words = set()
        for seed in range(120):
            maker = PileMaker(seed)
            town = maker.town()
            pile = gappy(maker, town, 2) if seed % 3 == 0 else maker.some(maker.whole(town, 14), seed % 4)
            comings = maker.comings(pile)
            for now in (0, maker.chance.randint(1, 12), 99):
                found = standing(town, pile, comings, now)
                self.assertEqual(found, slow_standing(town, pile, comings, now), seed)
                self.assertEqual(len(found), len({place[:3] for place in found}))
                words |= {place[3] for place in found}
                for deal, house, c, word in found:
                    if now > end_of(town[1][deal]) + town[0]:
                        self.assertIn(word, ("late", "silent"))
            # Behind the end and the span who was held is named still, as late or silent.
            held = {place[:3] for place in standing(town, pile, comings, 0)}
            self.assertEqual({place[:3] for place in standing(town, pile, comings, 99)}, held)
        self.assertEqual(words, {"late", "silent", "held"})

    def test_what_is_handed_in_stays_and_what_is_told_is_the_askers_own(self):
        town = town_of(clause())
        pile, comings = line("ann", (1, JOIN)), {ANN: 3}
        given = copy.deepcopy((town, pile, comings))
        for turn in range(2):
            found = standing(town, pile, comings, 4)
            self.assertEqual(found, [("sale", "ann", 0, "held")])
            found.clear()
            for some in takers(town, pile, "sale", 0):
                self.assertEqual(some, [])
                some.append("x")
        self.assertEqual((town, pile, comings), given)


class Takers(unittest.TestCase):
    TOWN = town_of(clause())

    def taken(self, pile, expected, town=None, deal="sale", c=0):
        for order in [pile, pile[::-1], pile + pile]:
            found = takers(town or self.TOWN, order, deal, c)
            self.assertEqual(found, expected)
            self.assertIs(type(found), tuple)

    def test_nobody(self):
        self.taken([], ([], []))
        # The debtor's own house is none of them, though it has begun.
        self.taken(line("ann", (1, JOIN)), ([], []))
        self.taken(line("ann", (1, JOIN), (2, NOTE, GAP)), ([], []))
        self.taken(line("cid", (1, JOIN), (2, ("ready", 0))), ([], []))
        self.taken(line("cid", (1, NOTE, name("ann", 5))), ([], []))

    def test_whole_piles(self):
        ann = line("ann", (1, JOIN), (2, ("hand", 0, "cid")))
        cid = line("cid", (1, ("ready", 0)), (2, NOTE, name("ann", 2)))
        self.taken(ann + cid, (["cid"], ["cid"]))
        self.taken(ann + cid[:1], ([], []))
        self.taken(ann + cid + line("cid", (1, NOTE), deal="rent") + line("dan", (1, ("ready", 0))), (["cid"], ["cid"]))
        # It has begun by some letter, whatever tips of other rows say.
        self.taken(ann + cid + [letter("cid", 3)], (["cid"], ["cid"]))
        self.taken(ann + cid + [letter("cid", 3, 2, deed=("do", 0, 0))], (["cid"], ["cid"]))

    def test_through_gaps(self):
        cid = line("cid", (1, ("ready", 0)), (2, NOTE, name("ann", 5)))
        self.taken(cid, (["cid"], []))
        self.taken(cid[:1], ([], []))
        self.taken(cid[1:], ([], []))
        dan = line("dan", (1, ("ready", 0), name("ann", 2)))
        hand = letter("ann", 2, 1, deed=("hand", 0, "dan"))
        self.taken(dan + cid, (["cid", "dan"], []))
        self.taken(dan + cid + [hand], (["cid", "dan"], ["dan"]))
        self.taken(dan + cid + [hand, letter("dan", 9, time=9)], (["cid", "dan"], ["dan"]))
        self.taken(cid + [letter("ann", 5, 4)], (["cid"], []))
        self.taken(cid + [letter("ann", 5)], ([], []))

    def test_houses_are_sorted(self):
        houses = ("debt", "owed", "d", "c", "b", "a")
        town = (0, {"sale": (houses, (), 100, (clause(), clause(2, 1)))})
        pile = [letter(house, 1, 0, (name("debt", 1),), deed=("ready", 0)) for house in houses[2:]]
        self.taken(pile, (["a", "b", "c", "d"], []), town)
        self.taken(pile, ([], []), town, c=1)
        hands = [letter("debt", nr, deed=("hand", 0, house)) for nr, house in enumerate("db", start=1)]
        pile = [letter(house, 1, 0, (name("debt", 1), name("debt", 2)), deed=("ready", 0)) for house in houses[2:]]
        self.taken(pile + hands, (["b", "d"], ["b", "d"]), town)

    def test_conds_and_close(self):
        town = town_of(clause(conds=[("said", 3, "go")]), close=5)
        hand = [letter("ann", 1, deed=("hand", 0, "cid"))]
        cid = line("cid", (1, ("ready", 0), ANN), (5, NOTE, name("dan", 4)))
        self.taken(hand + cid, (["cid"], []), town)
        self.taken(hand + cid + [letter("dan", 4, 3, deed=GO)], (["cid"], ["cid"]), town)
        cid = line("cid", (1, ("ready", 0), ANN), (6, NOTE, name("dan", 4)))
        self.taken(hand + cid, ([], []), town)

    def test_strangers(self):
        self.taken(line("eve", (1, ("ready", 0), name("ann", 5))), ([], []))
        self.taken(line("bell", (1, ("ready", 0), name("ann", 5))), ([], []))

    def test_clauses_and_deals_that_are_not_there(self):
        cid = line("cid", (1, ("ready", 1), name("ann", 5)))
        self.taken(cid, ([], []), c=1)
        self.taken(cid, ([], []), c=11)
        self.taken(cid, ([], []), deal="lost")

    def test_made_piles(self):
        found_may, found_sure = 0, 0
        for seed in range(400):
            maker = PileMaker(seed)
            town = maker.town()
            pile = gappy(maker, town, 3)
            if seed % 2:
                town, pile = handing(maker)
                pile = maker.some(pile, seed % 4)
            for deal, (houses, others, close, clauses) in town[1].items():
                for c in range(len(clauses)):
                    may, sure = set(), set()
                    for own in named(pile):
                        first = slow_row(pile, own)[0]
                        if own[1] == deal and own[0] != houses[clauses[c][0]] and first[3] == 0:
                            places = begins(town, pile, own, c)
                            may |= {own[0]} if places != [None] else set()
                            sure |= {own[0]} if None not in places else set()
                    self.assertEqual(takers(town, pile, deal, c), (sorted(may), sorted(sure)), seed)
                    found_may += len(may - sure)
                    found_sure += len(sure)
        self.assertGreater(min(found_may, found_sure), 20)


class HeldOnce(unittest.TestCase):
    """What is handed on is held just once."""

    def held_once(self, town, pile):
        """Tells how often a house other than the debtor's has begun a clause."""
        said = read(town, pile, {})
        count = 0
        for deal, (houses, others, close, clauses) in town[1].items():
            for c, clause_of in enumerate(clauses):
                debtor = houses[clause_of[0]]
                begun = {own[0] for own in named(pile) if own[1] == deal and own[0] != debtor
                         and Plain(town, pile, own).begin(c) is not None}
                broke = [claim for claim in said if claim[0] in ("ill", "twin", "loose") and claim[1][:2] == (debtor, deal)]
                self.assertTrue(len(begun) < 2 or broke)
                self.assertEqual(takers(town, pile, deal, c), (sorted(begun), sorted(begun)))
                count += len(begun)
                for own in named(pile):
                    deeds = [one[6] for one in slow_row(pile, own)]
                    if own[:2] == (debtor, deal) and [deed for deed in deeds if deed[:2] == ("hand", c)]:
                        self.assertEqual([claim for claim in said if claim[:3] == ("held", own, c)], [])
        return count

    def test_one_that_hands_on_twice(self):
        town = town_of(clause())
        ready = line("cid", (1, ("ready", 0))) + line("dan", (1, ("ready", 0)))
        taking = [letter(house, 2, 1, (name("ann", nr),), time=5) for house, nr in (("cid", 2), ("dan", 3))]
        gots = (name("cid", 1), name("dan", 1))
        for ann in itertools.product([letter("ann", 1, time=2, deed=JOIN)],
                                     [letter("ann", 2, 1, gots, time=3, deed=("hand", 0, "cid"))],
                                     [letter("ann", 3, prev, gots, time=4, deed=("hand", 0, "dan")) for prev in (0, 1, 2, 3)]):
            self.assertEqual(self.held_once(town, ready + list(ann) + taking), 2)
        self.assertEqual(self.held_once(town, ready + list(ann[:2]) + taking[:1]), 1)

    def test_made_piles(self):
        count = 0
        for seed in range(200):
            maker = PileMaker(seed)
            count += self.held_once(*handing(maker))
            town = maker.town()
            count += self.held_once(town, maker.whole(town, 16))
        self.assertGreater(count, 50)


if __name__ == "__main__":
    unittest.main()
