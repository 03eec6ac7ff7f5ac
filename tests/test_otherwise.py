import copy
import unittest

from fillings import gappy
from holdword.judging import told
from holdword.otherwise import otherwise
from holdword.piles import gaps, is_pile, is_whole
from holdword.reading import read
from plain import PileMaker, slow_read
from samples import ANYTHING, GO, JOIN, NOTE, NO_CLAIMS, claims_on, clause, letter, line, name, town_of

ANN = name("ann", 1)
GAP = name("bob", 5)


class Otherwise(unittest.TestCase):
    def held_to(self, town, pile, claims, comings=None):
        """Each claim is told, or there is a pile by which it is otherwise."""
        self.assertTrue(is_pile(pile))
        comings = comings or {}
        sure = told(town, pile, comings)
        for claim in claims:
            found = otherwise(town, pile, comings, claim)
            if claim in sure:
                self.assertIsNone(found, claim)
                continue
            self.assertIs(type(found), list)
            self.assertTrue(is_pile(found) and is_whole(found), claim)
            self.assertLessEqual(set(pile), set(found))
            names = [one[:3] for one in found]
            self.assertEqual(names, sorted(set(names)))
            self.assertNotIn(claim, read(town, found, comings))
            self.assertNotIn(claim, slow_read(town, found, comings))

    def split(self, town, pile, sure, unsure):
        """These claims are told, those aren't, and all is as it should be."""
        found = told(town, pile, {})
        for claim in sure:
            self.assertIn(claim, found)
        for claim in unsure:
            self.assertNotIn(claim, found)
        self.held_to(town, pile, sure + unsure)

    def test_whole_piles(self):
        town = town_of(clause())
        pile = line("bob", (0, JOIN)) + line("ann", (1, JOIN), (2, NOTE))
        for order in [pile, pile[::-1], pile + pile]:
            self.assertEqual(otherwise(town, order, {}, ("ill", ANN)), sorted(pile))
            self.assertIsNone(otherwise(town, order, {}, ("held", ANN, 0, 6)))
            self.assertEqual(otherwise(town, order, {}, ("held", ANN, 0, 7)), sorted(pile))
        self.assertEqual(otherwise(town, [], {}, ("ill", ANN)), [])

    def test_all_forms(self):
        town = town_of(clause(conds=[("joined", 1)], leave=(("said", 2, "no"), 1)), clause(1, 0), span=1)
        names = [ANN, name("ann", 2), name("ann", 3), name("ann", 9), GAP, name("bob", 1), name("bob", 2), name("zed", 1),
                 name("bell", 4), name("ann", 1, "lost"), name("cid", 3, "lost"), name("ann", 10 ** 29)]
        own = line("ann", (1, JOIN, GAP), (2, ("do", 0, 0), name("cid", 3)), (3, NOTE, name("bell", 4)))
        loose = [letter("ann", 9, 9), letter("bob", 2, 3), letter("ann", 1, 4, deal="lost")]
        for pile in [[], own, own[1:], own[2:], own + loose, own[1:] + loose, loose, own + line("bob", (1, JOIN))]:
            self.held_to(town, pile, claims_on(names), {ANN: 0, GAP: 0, name("ann", 2): 0, name("bell", 4): 0})

    def test_names_that_the_pile_could_be_filled_with(self):
        # Whatever nrs the filling takes, it must not come to bear out the claim itself.
        town = town_of(clause())
        pile = [letter("ann", 3, 2, (GAP,)), letter("ann", 5, 4)]
        names = [name(house, nr) for house in ("ann", "bob") for nr in range(1, 12)]
        self.held_to(town, pile, claims_on(names, (0,), (5,)))

    def test_twins_with_gaps(self):
        town = town_of(clause())
        for pile in [[letter("bob", 1), letter("ann", 1, 0, (GAP,))], [letter("bob", 6, 5), letter("bob", 7, 4)],
                     [letter("ann", 1, 0, (name("bob", 4), GAP))]]:
            self.held_to(town, pile, [("twin", name("bob", low), name("bob", high)) for low in range(1, 10)
                                      for high in range(1, 10)])

    def test_rows_without_a_beginning(self):
        town = town_of(clause())
        pile = [letter("ann", 3, 2, deed=("do", 0, 0)), letter("ann", 4, 3, deed=("free", 9))]
        self.split(town, pile, [], [("ill", name("ann", 3)), ("ill", name("ann", 4)), ("loose", name("ann", 4)),
                                    ("back", name("ann", 3)), ("ill", name("ann", 2)), ("loose", name("ann", 2))])

    def test_begins(self):
        town = town_of(clause(conds=[("said", 2, "go"), ("joined", 2)]))
        cid = line("cid", (0, JOIN), (0, GO))
        own = name("ann", 3)
        pile = cid + line("ann", (1, JOIN), (2, NOTE, name("cid", 5)), (3, NOTE, name("cid", 2)))
        self.split(town, pile, [], [("held", own, 0, 8), ("held", own, 0, 7), ("held", own, 0, 6)])
        pile = cid + line("ann", (1, JOIN), (2, NOTE, name("cid", 5)), (2, NOTE, name("cid", 2)))
        self.split(town, pile, [("held", own, 0, 7)], [("held", own, 0, 8), ("held", name("ann", 2), 0, 7)])
        town = town_of(clause(conds=[("said", 2, "go")]), close=2)
        pile = cid + line("ann", (1, JOIN), (3, NOTE, name("cid", 5)), (2, NOTE, name("cid", 2)))
        self.split(town, pile, [], [("held", own, 0, 7), ("kept", own, 0)])

    def test_begins_by_one_of_several_gaps(self):
        # The earliest place and the sure one come to the same due, the one between them does not.
        town = town_of(clause(conds=[("said", 2, "go")]))
        own = name("ann", 4)
        pile = [letter("cid", 9, deed=GO)]
        pile += line("ann", (1, JOIN), (2, NOTE, name("cid", 5)), (3, NOTE, name("cid", 6)), (2, NOTE, name("cid", 9)))
        self.split(town, pile, [], [("held", own, 0, 7), ("held", own, 0, 8)])

    def test_hands(self):
        town = town_of(clause())
        own = name("cid", 3)
        pile = [letter("ann", 9, deed=("hand", 0, "cid"))]
        pile += line("cid", (1, ("ready", 0)), (2, NOTE, name("ann", 5)), (3, ("do", 0, 0), name("ann", 9)))
        self.split(town, pile, [("kept", own, 0)], [("ill", own), ("held", own, 0, 8), ("held", own, 0, 7)])
        self.split(town, pile[1:], [], [("kept", own, 0), ("ill", own), ("held", own, 0, 7)])
        own = name("ann", 2)
        self.split(town, line("ann", (1, JOIN), (2, ("hand", 0, "cid"), name("cid", 5))), [], [("ill", own)])
        self.split(town, line("ann", (1, JOIN), (2, ("hand", 0, "cid"), GAP)), [("ill", own)], [])

    def test_ends(self):
        town = town_of(clause(within=50, leave=(("said", 2, "no"), 4)))
        own = name("ann", 2)
        self.split(town, line("ann", (1, JOIN), (2, NOTE, GAP)), [], [("held", own, 0, 51)])
        self.split(town, line("ann", (1, JOIN), (60, NOTE, GAP)), [], [("late", own, 0)])
        self.split(town, line("ann", (1, JOIN), (5, ("quit", 0), name("cid", 5))), [], [("held", own, 0, 51), ("ill", own)])
        self.split(town, line("ann", (1, JOIN), (4, ("quit", 0), name("cid", 5))), [("held", own, 0, 51), ("ill", own)], [])

    def test_several_deeds_by_one_gap(self):
        town = town_of(clause(conds=[("said", 2, "go"), ("said", 2, "no"), ("joined", 2), ("did", 0, 1, 0)]),
                       clause(2, 3))
        own = name("ann", 2)
        pile = line("ann", (1, JOIN, name("cid", 5)), (2, ("do", 0, 0)))
        self.split(town, pile, [], [("ill", own), ("kept", own, 0)])
        behind = [one[6] for one in otherwise(town, pile, {}, ("ill", own)) if one[0] == "cid"]
        self.assertLessEqual({GO, ("say", "no"), JOIN, ("do", 1, 0)}, set(behind))

    def test_no_claims(self):
        town = town_of(clause())
        for pile in [[], line("ann", (1, JOIN)), line("ann", (1, JOIN, GAP))]:
            for thing in ANYTHING + NO_CLAIMS:
                self.assertIsNone(otherwise(town, pile, {}, thing), thing)

    def test_what_is_handed_in_stays_and_what_is_told_is_the_askers_own(self):
        town = town_of(clause())
        pile = line("ann", (1, JOIN, GAP))
        given = copy.deepcopy((town, pile))
        kept = copy.deepcopy(otherwise(town, pile, {}, ("held", ANN, 0, 6)))
        self.assertGreater(len(kept), 1)
        for turn in range(2):
            found = otherwise(town, pile, {}, ("held", ANN, 0, 6))
            self.assertEqual(found, kept)
            found.clear()
            other = otherwise(town, [], {}, ("ill", ANN))
            other.append("x")
            self.assertEqual(otherwise(town, [], {}, ("ill", ANN)), [])
        self.assertEqual((town, pile), given)

    def test_many_gaps(self):
        town = town_of(clause())
        pile = [letter("ann", nr, nr - 1, tuple(name("bob", 30 * nr + at) for at in range(30)), deed=JOIN)
                for nr in range(1, 301)]
        found = otherwise(town, pile, {}, ("held", name("ann", 300), 0, 5))
        self.assertEqual(len(gaps(pile)), 9000)
        self.assertTrue(is_pile(found) and is_whole(found))
        self.assertLessEqual(set(pile), set(found))
        self.assertNotIn(("held", name("ann", 300), 0, 5), read(town, found, {}))

    def test_made_piles(self):
        for seed in range(120):
            maker = PileMaker(seed)
            town = maker.town()
            whole = maker.whole(town, 12)
            comings = maker.comings(whole)
            pile = maker.some(whole, 4)
            if seed % 2:
                pile = gappy(maker, town, 3)
            names = sorted({one[:3] for one in pile + whole} | set(gaps(pile)))
            claims = maker.chance.sample(claims_on(names, (0, 1, 2), (3, 6, 9)), 40)
            claims += read(town, pile, comings) + told(town, pile, comings)
            self.held_to(town, pile, claims, comings)


if __name__ == "__main__":
    unittest.main()
