import copy
import random
import unittest

from holdword.letters import name_of
from holdword.piles import is_pile
from holdword.rows import place, row, seen
from plain import slow_row
from samples import DEAL, TOWN, letter, name


ANN = [letter("ann", nr, nr - 1) for nr in (1, 2, 3)]


class Rows(unittest.TestCase):
    def test_from_the_first_to_it(self):
        for pile in [ANN, ANN[::-1], ANN + ANN, [ANN[1], ANN[2], ANN[0], ANN[1]]]:
            for many in (1, 2, 3):
                self.assertEqual(row(pile, name("ann", many)), ANN[:many])

    def test_one_that_follows_on_none(self):
        pile = ANN + [letter("ann", 7), letter("ann", 5, 7)]
        self.assertEqual(row(pile, name("ann", 7)), [letter("ann", 7)])
        self.assertEqual(row(pile, name("ann", 5)), [letter("ann", 7), letter("ann", 5, 7)])

    def test_one_that_follows_on_one_that_is_not_there(self):
        self.assertEqual(row(ANN[1:], name("ann", 3)), ANN[1:])
        self.assertEqual(row([ANN[0], ANN[2]], name("ann", 3)), [ANN[2]])
        self.assertEqual(row([letter("ann", 1, 9)], name("ann", 1)), [letter("ann", 1, 9)])

    def test_one_that_follows_on_itself(self):
        own = letter("ann", 4, 4)
        behind = letter("ann", 5, 4)
        self.assertEqual(row([own, behind], name("ann", 4)), [own])
        self.assertEqual(row([own, behind], name("ann", 5)), [own, behind])

    def test_round_about(self):
        one, two, three = letter("ann", 1, 3), letter("ann", 2, 1), letter("ann", 3, 2)
        pile = [one, two, three, letter("ann", 4, 2)]
        self.assertEqual(row(pile, name("ann", 1)), [two, three, one])
        self.assertEqual(row(pile, name("ann", 2)), [three, one, two])
        self.assertEqual(row(pile, name("ann", 3)), [one, two, three])
        self.assertEqual(row(pile, name("ann", 4)), [three, one, two, letter("ann", 4, 2)])

    def test_house_and_deal_are_kept_apart(self):
        pile = ANN + [letter("bob", 1), letter("bob", 2, 1), letter("ann", 1, deal="rent"), letter("ann", 3, 1, deal="rent")]
        self.assertEqual(row(pile, name("bob", 2)), [letter("bob", 1), letter("bob", 2, 1)])
        told = [letter("ann", 1, deal="rent"), letter("ann", 3, 1, deal="rent")]
        self.assertEqual(row(pile, name("ann", 3, "rent")), told)
        self.assertEqual(row([letter("bob", 1), letter("ann", 2, 1)], name("ann", 2)), [letter("ann", 2, 1)])

    def test_prevs_need_not_fall(self):
        pile = [letter("ann", 2), letter("ann", 1, 2)]
        self.assertEqual(row(pile, name("ann", 1)), pile)

    def test_twins(self):
        pile = ANN + [letter("ann", 4, 1)]
        self.assertEqual(row(pile, name("ann", 4)), [ANN[0], letter("ann", 4, 1)])
        self.assertEqual(row(pile, name("ann", 3)), ANN)

    def test_names_that_the_pile_has_not(self):
        for other in [name("ann", 4), name("bob", 1), name("ann", 1, "rent"), name("ann", 0), name("zz", 10 ** 29)]:
            self.assertEqual(row(ANN, other), [])
            self.assertEqual(row([], other), [])

    def test_three_hundred_letters(self):
        pile = [letter("ann", nr, nr - 1) for nr in range(1, 301)]
        self.assertEqual(row(pile[::-1], name("ann", 300)), pile)

    def test_own_and_kept(self):
        pile = list(ANN)
        told = row(pile, name("ann", 2))
        self.assertIs(type(told), list)
        told.clear()
        self.assertEqual(row(pile, name("ann", 2)), ANN[:2])
        none = row(pile, name("bob", 1))
        none.append("x")
        self.assertEqual(row(pile, name("bob", 1)), [])
        self.assertEqual(pile, ANN)


class Seen(unittest.TestCase):
    def test_the_row_alone(self):
        for many in (1, 2, 3):
            self.assertEqual(seen(ANN[::-1], name("ann", many)), ANN[:many])

    def test_sorted_by_names(self):
        first, second = letter("ann", 10), letter("ann", 9, 10)
        self.assertEqual(seen([first, second], name("ann", 9)), [second, first])
        bob = [letter("bob", 2), letter("bob", 1, 2, (name("ann", 3), name("cid", 1)))]
        cid = [letter("cid", 1)]
        self.assertEqual(seen(cid + bob + ANN, name("bob", 1)), ANN + [bob[1], bob[0]] + cid)

    def test_rows_of_gots_up_to_the_place(self):
        bob = [letter("bob", 1, 0, (name("ann", 2),)), letter("bob", 2, 1), letter("bob", 3, 2, (name("ann", 3),))]
        pile = bob + ANN
        self.assertEqual(seen(pile, name("bob", 1)), ANN[:2] + bob[:1])
        self.assertEqual(seen(pile, name("bob", 2)), ANN[:2] + bob[:2])
        self.assertEqual(seen(pile, name("bob", 3)), ANN + bob)

    def test_gots_of_gots_are_not_gone_into(self):
        bob = [letter("bob", 1, 0, (name("ann", 1),)), letter("bob", 2, 1)]
        cid = [letter("cid", 1, 0, (name("bob", 2),))]
        pile = ANN + bob + cid
        self.assertEqual(seen(pile, name("cid", 1)), bob + cid)

    def test_each_once(self):
        bob = [letter("bob", 1, 0, (name("ann", 1), name("ann", 2))), letter("bob", 2, 1, (name("ann", 2),))]
        self.assertEqual(seen(bob + ANN + bob, name("bob", 2)), ANN[:2] + bob)

    def test_gots_that_are_not_there(self):
        bob = letter("bob", 1, 0, (name("ann", 3), name("cid", 5)))
        self.assertEqual(seen([bob], name("bob", 1)), [bob])
        self.assertEqual(seen([bob] + ANN[1:], name("bob", 1)), ANN[1:] + [bob])

    def test_rows_without_a_beginning(self):
        bob = letter("bob", 4, 3, (name("ann", 3),))
        self.assertEqual(seen([bob, ANN[2]], name("bob", 4)), [ANN[2], bob])

    def test_rows_that_go_round(self):
        bob = [letter("bob", 1, 2, (name("ann", 1),)), letter("bob", 2, 1)]
        self.assertEqual(seen(bob + ANN, name("bob", 2)), ANN[:1] + bob)
        self.assertEqual(seen(bob + ANN, name("bob", 1)), ANN[:1] + bob)

    def test_own_and_kept(self):
        pile = ANN + [letter("bob", 1, 0, (name("ann", 2),))]
        kept = copy.deepcopy(pile)
        told = seen(pile, name("bob", 1))
        self.assertIs(type(told), list)
        told.clear()
        self.assertEqual(pile, kept)
        self.assertEqual(seen(pile, name("bob", 1)), ANN[:2] + [pile[3]])


class Places(unittest.TestCase):
    """The town: sale of ann, bob, cid with rent as its other; rent of dan and ann."""

    def placed(self, pile, told, event, of=("ann", "sale", 9)):
        self.assertTrue(is_pile(pile))
        for order in [pile, pile[::-1], pile + pile]:
            self.assertEqual(place(TOWN, order, of, event), told, event)

    def around(self, deed, house="bob", deal="sale"):
        """A row of ann's that sees the deed at its third place, by a got."""
        theirs = [letter(house, 1, deal=deal), letter(house, 2, 1, deal=deal, deed=deed), letter(house, 3, 2, deal=deal)]
        return theirs + [letter("ann", 6), letter("ann", 7, 6, (name(house, 1, deal),)),
                         letter("ann", 8, 7, (name(house, 3, deal),)), letter("ann", 9, 8)]

    def test_joined(self):
        self.placed(self.around(("join",)), 3, ("joined", 1))
        self.placed(self.around(("join",)), None, ("joined", 0))
        self.placed(self.around(("join",)), None, ("joined", 2))
        self.placed(self.around(("join",), "cid"), 3, ("joined", 2))
        self.placed(self.around(("join",), deal="rent"), None, ("joined", 1))
        self.placed(self.around(("note",)), None, ("joined", 1))

    def test_joined_by_the_row_itself(self):
        pile = [letter("ann", 7), letter("ann", 8, 7, deed=("join",)), letter("ann", 9, 8)]
        self.placed(pile, 2, ("joined", 0))
        self.placed(pile, None, ("joined", 0), name("ann", 7))
        self.placed(pile, 2, ("joined", 0), name("ann", 8))

    def test_the_first_of_several(self):
        pile = [letter("ann", 7), letter("ann", 8, 7, deed=("join",)), letter("ann", 9, 8, deed=("join",))]
        self.placed(pile, 2, ("joined", 0))
        twice = self.around(("join",))
        twice[0] = letter("bob", 1, deed=("join",))
        self.placed(twice, 2, ("joined", 1))

    def test_said(self):
        self.placed(self.around(("say", "go"), "cid"), 3, ("said", 2, "go"))
        self.placed(self.around(("say", "go"), "cid"), None, ("said", 2, "no"))
        self.placed(self.around(("say", "go"), "cid"), None, ("said", 1, "go"))
        self.placed(self.around(("say", "go"), "cid", "rent"), None, ("said", 2, "go"))
        self.placed(self.around(("say", "go"), "bob"), None, ("said", 2, "go"))
        pile = [letter("ann", 9, deed=("say", "go"))]
        self.placed(pile, 1, ("said", 0, "go"))

    def test_did_here(self):
        # Clause 0 is ann's to bob, clause 1 bob's to cid, clause 2 cid's to ann.
        self.placed(self.around(("do", 1, 0), "bob"), 3, ("did", 0, 1, 0))
        self.placed(self.around(("do", 0, 1), "cid"), 3, ("did", 0, 0, 1))
        self.placed(self.around(("do", 0, 0), "cid"), None, ("did", 0, 0, 1))
        self.placed(self.around(("do", 2, 1), "cid"), None, ("did", 0, 0, 1))
        self.placed(self.around(("do", 2, 8), "cid"), 3, ("did", 0, 2, 8))
        self.placed(self.around(("do", 2, 8), "bob"), 3, ("did", 0, 2, 8))
        self.placed([letter("ann", 9, deed=("do", 1, 0))], 1, ("did", 0, 1, 0))
        self.placed([letter("ann", 9, deed=("do", 0, 0))], 1, ("did", 0, 0, 0))

    def test_did_of_the_creditors_house(self):
        self.placed(self.around(("do", 0, 0), "bob"), None, ("did", 0, 0, 0))
        self.placed(self.around(("do", 1, 0), "cid"), None, ("did", 0, 1, 0))
        self.placed([letter("ann", 9, deed=("do", 2, 0))], None, ("did", 0, 2, 0))

    def test_did_of_strangers(self):
        for stranger in ["dan", "bell", "eve"]:
            self.placed(self.around(("do", 0, 0), stranger), None, ("did", 0, 0, 0))
            self.placed(self.around(("join",), stranger), None, ("joined", 1))
        pile = [letter("eve", 9, deed=("do", 0, 0))]
        self.placed(pile, None, ("did", 0, 0, 0), name("eve", 9))

    def test_did_elsewhere(self):
        # In rent clause 0 is dan's to ann, clause 1 ann's to dan.
        self.placed(self.around(("do", 1, 2), "ann", "rent"), 3, ("did", 1, 1, 2))
        self.placed(self.around(("do", 0, 0), "dan", "rent"), 3, ("did", 1, 0, 0))
        self.placed(self.around(("do", 0, 0), "ann", "rent"), None, ("did", 1, 0, 0))
        self.placed(self.around(("do", 1, 2), "dan", "rent"), None, ("did", 1, 1, 2))
        self.placed(self.around(("do", 1, 2), "bob", "rent"), None, ("did", 1, 1, 2))
        self.placed(self.around(("do", 1, 1), "ann", "rent"), None, ("did", 1, 1, 2))
        self.placed(self.around(("do", 1, 2), "bob", "sale"), None, ("did", 1, 1, 2))
        self.placed(self.around(("do", 1, 0), "bob", "rent"), None, ("did", 0, 1, 0))

    def test_each_of_several_others(self):
        asking = (("x", "y"), ("sale", "rent"), 0, ((0, 1, 1, 1, (), ()),))
        town = (0, {"ask": asking, "sale": DEAL, "rent": TOWN[1]["rent"]})
        pile = [letter("dan", 1, deal="rent", deed=("do", 0, 0)), letter("cid", 1, deal="sale", deed=("do", 0, 0)),
                letter("y", 1, deal="ask", gots=(name("cid", 1),)),
                letter("y", 2, 1, deal="ask", gots=(name("dan", 1, "rent"),))]
        self.assertEqual(place(town, pile, name("y", 2, "ask"), ("did", 1, 0, 0)), 1)
        self.assertEqual(place(town, pile, name("y", 2, "ask"), ("did", 2, 0, 0)), 2)
        self.assertIsNone(place(town, pile, name("y", 1, "ask"), ("did", 2, 0, 0)))
        self.assertIsNone(place(town, pile, name("y", 2, "ask"), ("did", 0, 0, 0)))

    def test_of_letters_of_strangers_and_bell(self):
        for house in ["bell", "eve", "bob"]:
            pile = [letter("cid", 1, deed=("join",)), letter(house, 8), letter(house, 9, 8, (name("cid", 1),))]
            self.placed(pile, 2, ("joined", 2), name(house, 9))

    def test_gots_of_gots_are_not_gone_into(self):
        pile = [letter("bob", 1, deed=("join",)), letter("cid", 1, 0, (name("bob", 1),)),
                letter("ann", 9, 0, (name("cid", 1),))]
        self.placed(pile, None, ("joined", 1))

    def test_what_is_not_got(self):
        pile = [letter("bob", 1, deed=("join",)), letter("bob", 2), letter("ann", 9, 0, (name("bob", 2),))]
        self.placed(pile, None, ("joined", 1))
        self.placed([letter("ann", 9, 0, (name("bob", 1),))], None, ("joined", 1))

    def test_rows_without_a_beginning(self):
        pile = [letter("bob", 5, 4, deed=("join",)), letter("ann", 8, 7), letter("ann", 9, 8, (name("bob", 5),))]
        self.placed(pile, 2, ("joined", 1))

    def test_rows_that_go_round(self):
        pile = [letter("ann", 9, 8, deed=("join",)), letter("ann", 8, 9, deed=("say", "go"))]
        self.placed(pile, 2, ("joined", 0))
        self.placed(pile, 1, ("said", 0, "go"))

    def test_what_is_handed_in_stays(self):
        town = copy.deepcopy(TOWN)
        pile = self.around(("join",))
        kept = copy.deepcopy(pile)
        for turn in range(2):
            self.assertEqual(place(town, pile, ("ann", "sale", 9), ("joined", 1)), 3)
            self.assertEqual((town, pile), (TOWN, kept))


def slow_seen(pile, own):
    found = []
    for one in slow_row(pile, own):
        found.append(one)
        for got in one[4]:
            found += slow_row(pile, got)
    return sorted(set(found))


class MadePiles(unittest.TestCase):
    DEEDS = [("join",), ("note",), ("say", "go"), ("do", 0, 0), ("do", 0, 1), ("do", 1, 0), ("do", 1, 2), ("free", 0)]
    EVENTS = [("joined", 0), ("joined", 1), ("joined", 2), ("said", 2, "go"), ("said", 1, "no"), ("did", 0, 0, 0),
              ("did", 0, 0, 1), ("did", 0, 1, 0), ("did", 1, 0, 0), ("did", 1, 1, 2)]

    def made(self, chance):
        names = [(house, deal, nr) for house in ("ann", "bob", "dan") for deal in ("sale", "rent") for nr in (1, 2, 3, 4)]
        pile = []
        for house, deal, nr in chance.sample(names, 16):
            others = [other for other in names if other[:2] != (house, deal)]
            gots = tuple(sorted(chance.sample(others, chance.randint(0, 3))))
            pile.append((house, deal, nr, chance.randint(0, 4), gots, 0, chance.choice(self.DEEDS)))
        return pile + pile[:3]

    def is_event(self, one, event):
        house, deal, deed = one[0], one[1], one[6]
        if event[0] == "joined":
            return (house, deal, deed) == (DEAL[0][event[1]], "sale", ("join",))
        if event[0] == "said":
            return (house, deal, deed) == (DEAL[0][event[1]], "sale", ("say", event[2]))
        there = ["sale", "rent"][event[1]]
        houses, others, close, clauses = TOWN[1][there]
        creditor = houses[clauses[event[2]][1]]
        return deal == there and house in houses and house != creditor and deed == ("do", event[2], event[3])

    def test_made_piles(self):
        chance = random.Random(5)
        for turn in range(60):
            pile = self.made(chance)
            self.assertTrue(is_pile(pile))
            for one in pile:
                own = name_of(one)
                ahead = slow_row(pile, own)
                self.assertEqual(row(pile, own), ahead)
                self.assertEqual(seen(pile, own), slow_seen(pile, own))
                if own[1] == "sale":
                    for event in self.EVENTS:
                        self.assertEqual(place(TOWN, pile, own, event), self.slow_place(pile, ahead, event))

    def slow_place(self, pile, ahead, event):
        for many in range(1, len(ahead) + 1):
            known = ahead[:many] + [other for one in ahead[:many] for got in one[4] for other in slow_row(pile, got)]
            if any(self.is_event(one, event) for one in known):
                return many
        return None


if __name__ == "__main__":
    unittest.main()
