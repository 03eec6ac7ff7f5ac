import copy
import unittest

from holdword.judging import told
from holdword.looking import takes
from holdword.reading import read
from plain import PileMaker
from samples import ANYTHING, Checks, GO, JOIN, NO_CLAIMS, NOTE, claims_on, clause, letter, line, name, town_of

ANN = name("ann", 1)
GAP = name("bob", 5)


class Looking(Checks):
    TOWN = town_of(clause(conds=[("said", 1, "go")]), clause(0, 2), span=1)
    PILE = (line("bob", (0, GO)) + [letter("bob", 3, 2)]
            + line("ann", (1, JOIN, name("bob", 1)), (1, ("do", 0, 0), name("bob", 3)), (9, ("do", 1, 1), GAP)))

    def test_just_what_is_told(self):
        sure = told(self.TOWN, self.PILE, {name("ann", 3): 2})
        self.assertEqual(sure, [("ahead", name("ann", 3)), ("held", ANN, 0, 6), ("held", ANN, 1, 6),
                                ("held", name("ann", 2), 1, 6), ("ill", name("ann", 3)), ("kept", name("ann", 2), 0),
                                ("kept", name("ann", 3), 0), ("late", name("ann", 3), 1)])
        names = [one[:3] for one in self.PILE] + [GAP, name("bob", 2), name("zed", 1), name("ann", 1, "lost")]
        asked = claims_on(names, (0, 1, 2, 11), (0, 5, 6, 7))
        self.assertLessEqual(set(sure), set(asked))
        for claim in asked:
            for order in [self.PILE, self.PILE[::-1] + self.PILE]:
                self.assertIs(takes(self.TOWN, claim, order, {name("ann", 3): 2}), claim in sure, claim)

    def test_anything(self):
        for pile in [[], self.PILE]:
            for thing in ANYTHING + NO_CLAIMS:
                self.no(takes(self.TOWN, thing, pile, {}), thing)

    def test_truths_are_no_numbers(self):
        self.yes(takes(self.TOWN, ("held", ANN, 0, 6), self.PILE, {}))
        self.yes(takes(self.TOWN, ("held", ANN, 1, 6), self.PILE, {}))
        self.no(takes(self.TOWN, ("held", ANN, False, 6), self.PILE, {}))
        self.no(takes(self.TOWN, ("held", ANN, True, 6), self.PILE, {}))
        self.no(takes(self.TOWN, ("held", ("ann", "sale", True), 1, 6), self.PILE, {}))

    def test_by_fewer_letters(self):
        claim = ("kept", name("ann", 2), 0)
        self.yes(takes(self.TOWN, claim, self.PILE, {}))
        for left, taken in [(0, False), (1, True), (2, False), (3, False), (4, True)]:
            some = self.PILE[:left] + self.PILE[left + 1:]
            self.assertIs(takes(self.TOWN, claim, some, {}), taken, left)

    def test_two_piles_by_turns(self):
        given = copy.deepcopy((self.TOWN, self.PILE))
        other = line("ann", (1, NOTE))
        for turn in range(2):
            self.yes(takes(self.TOWN, ("held", ANN, 0, 6), self.PILE, {}))
            self.no(takes(self.TOWN, ("held", ANN, 0, 6), other, {}))
        self.assertEqual((self.TOWN, self.PILE), given)

    def test_made_piles(self):
        for seed in range(60):
            maker = PileMaker(seed)
            town = maker.town()
            whole = maker.whole(town, 14)
            comings = maker.comings(whole)
            pile = maker.some(whole, 4)
            sure = told(town, pile, comings)
            claims = claims_on(sorted({one[:3] for one in whole}), (0, 1, 2), (3, 6, 9))
            for claim in maker.chance.sample(claims, 60) + sure + read(town, whole, comings):
                self.assertIs(takes(town, claim, pile, comings), claim in sure, (seed, claim))


if __name__ == "__main__":
    unittest.main()
