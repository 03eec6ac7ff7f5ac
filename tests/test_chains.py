import copy
import unittest

from fillings import gappy
from holdword.chains import chain
from holdword.judging import told
from holdword.looking import takes
from holdword.otherwise import otherwise
from holdword.piles import is_pile, is_whole
from plain import PileMaker, named, slow_read
from samples import ANYTHING, GO, JOIN, NO_CLAIMS, NOTE, claims_on, clause, letter, line, name, town_of

ANN = name("ann", 1)
BOB = name("bob", 1)
GAP = name("bob", 5)
SORTS = {"held", "kept", "late", "ill", "back", "twin", "loose", "behind", "ahead"}


def some_comings(comings, letters):
    """The comings of some letters alone."""
    return {one[:3]: comings[one[:3]] for one in letters if one[:3] in comings}


class Chained(unittest.TestCase):
    def is_chain(self, town, pile, comings, claim, links):
        """The links are a chain of the claim, as it is told of chains."""
        self.assertIs(type(links), list)
        self.assertLessEqual(set(links), set(pile))
        names = [one[:3] for one in links]
        self.assertEqual(names, sorted(set(names)))
        self.assertIn(claim, told(town, links, some_comings(comings, links)))
        for left in links:
            fewer = [one for one in links if one != left]
            self.assertNotIn(claim, told(town, fewer, some_comings(comings, fewer)), left)
            self.assertIsNotNone(otherwise(town, fewer, some_comings(comings, fewer), claim))

    def chained(self, town, pile, claim, expected, comings=None):
        """The chain of the claim is just as expected, whatever else is in the pile, and in any order."""
        comings = comings or {}
        self.assertTrue(is_pile(pile))
        aside = line("eve", (1, JOIN), (0, ("do", 0, 0), ANN, GAP)) + line("ann", (1, JOIN), (2, GO), deal="rent")
        for order in [pile, pile[::-1], pile + pile, aside + pile, pile[:1] + aside + pile]:
            links = chain(town, order, comings, claim)
            self.is_chain(town, order, comings, claim, links)
            self.assertEqual(links, sorted(expected))


class EachSort(Chained):
    def test_held(self):
        town = town_of(clause(conds=[("said", 1, "go")]))
        bob = line("bob", (0, NOTE), (0, GO), (0, NOTE))
        ann = line("ann", (1, JOIN), (2, NOTE, name("bob", 3)), (3, NOTE, name("cid", 1)), (4, NOTE))
        pile = bob + ann + line("cid", (0, GO))
        # All of bob's letters count: by a gap among them he might have let it off.
        self.chained(town, pile, ("held", name("ann", 2), 0, 7), bob + ann[:2])
        self.chained(town, pile, ("held", name("ann", 4), 0, 7), bob + ann)

    def test_held_with_gaps(self):
        town = town_of(clause(conds=[("said", 2, "go")]))
        cid = [letter("cid", 1, deed=NOTE), letter("cid", 2, 1, deed=GO), letter("cid", 3, 2)]
        ann = line("ann", (1, JOIN), (2, NOTE, name("cid", 3), name("dan", 9)), (3, NOTE, name("cid", 8)))
        # What stands ahead of the letter that counts may be left out.
        self.chained(town, cid + ann, ("held", name("ann", 3), 0, 7), cid[1:] + ann)
        self.chained(town, cid[1:] + ann, ("held", name("ann", 2), 0, 7), cid[1:] + ann[:2])

    def test_kept(self):
        town = town_of(clause(parts=2, conds=[("said", 1, "go")]))
        bob = line("bob", (0, GO), (0, ("free", 0)))
        ann = line("ann", (1, JOIN, BOB), (2, ("do", 0, 1)), (3, ("do", 0, 0), name("bob", 2), GAP), (4, NOTE))
        self.chained(town, bob + ann, ("kept", name("ann", 3), 0), bob[:1] + ann[:3])
        self.chained(town, bob + ann, ("kept", name("ann", 4), 0), bob[:1] + ann)

    def test_kept_by_one_of_two_letters(self):
        # Either letter is enough, so a chain has one of them, and which one isn't promised.
        town = town_of(clause(conds=[("said", 1, "go")]))
        both = [letter("bob", 1, deed=GO), letter("bob", 2, deed=GO)]
        ann = line("ann", (1, JOIN, *[one[:3] for one in both]), (2, ("do", 0, 0)))
        claim = ("kept", name("ann", 2), 0)
        links = chain(town, both + ann, {}, claim)
        self.is_chain(town, both + ann, {}, claim, links)
        self.assertEqual(len(links), 3)
        self.assertLessEqual(set(ann), set(links))

    def test_late(self):
        town = town_of(clause())
        ann = line("ann", (1, JOIN), (6, NOTE), (7, NOTE, BOB, name("cid", 1)))
        pile = ann + line("bob", (0, NOTE)) + line("cid", (0, NOTE))
        self.chained(town, pile, ("late", name("ann", 3), 0), ann + line("bob", (0, NOTE)))
        ann = line("ann", (1, JOIN), (6, NOTE), (7, NOTE, name("cid", 7)))
        self.chained(town, ann, ("late", name("ann", 3), 0), ann)

    def test_ill(self):
        town = town_of(clause(conds=[("said", 1, "go")]))
        bob = line("bob", (0, NOTE), (0, NOTE))
        ann = line("ann", (1, JOIN), (2, ("do", 0, 0), name("bob", 2)), (3, ("free", 0), GAP))
        self.chained(town, bob + ann, ("ill", name("ann", 2)), bob + ann[:2])
        # What no other letter can mend hangs on the row alone.
        self.chained(town, bob + ann, ("ill", name("ann", 3)), ann)
        self.chained(town, ann, ("ill", name("ann", 3)), ann)

    def test_ill_hands_and_quits(self):
        town = town_of(clause(leave=(("said", 2, "no"), 1)))
        cid = line("cid", (0, ("ready", 0)), (0, NOTE))
        ann = line("ann", (1, JOIN), (2, ("hand", 0, "dan"), name("cid", 2)), (3, ("hand", 0, "cid")))
        self.chained(town, cid + ann, ("ill", name("ann", 2)), ann[:2])
        self.chained(town, cid + ann, ("ill", name("ann", 3)), ann)
        no = line("cid", (0, ("say", "no")), (0, NOTE), (0, NOTE))
        ann = line("ann", (1, JOIN), (2, ("quit", 0), name("cid", 2), GAP), (2, ("quit", 0), name("cid", 3)))
        self.chained(town, no + ann, ("ill", name("ann", 2)), no[:2] + ann[:2])
        # By the second letter, too, the word of cid is seen, through the first got of the row.
        self.chained(town, no + ann, ("ill", name("ann", 3)), no[:2] + ann)

    def test_back(self):
        pile = line("ann", (3, JOIN, BOB), (9, NOTE), (8, NOTE, GAP), (9, NOTE)) + line("bob", (1, NOTE))
        for part in [pile, pile[1:], pile[1:3]]:
            self.chained(town_of(clause()), part, ("back", name("ann", 3)), pile[1:3])
            self.chained(town_of(clause(), span=5), part, ("back", name("ann", 3)), pile[1:3])
            self.chained((0, {}), part, ("back", name("ann", 3)), pile[1:3])

    def test_twin(self):
        town = town_of(clause())
        pile = [letter("ann", 1), letter("ann", 2, 1, (GAP,)), letter("ann", 3, 1), letter("ann", 4, 1), letter("ann", 5, 3)]
        self.chained(town, pile, ("twin", name("ann", 2), name("ann", 4)), [pile[1], pile[3]])
        self.chained(town, pile[1:], ("twin", name("ann", 2), name("ann", 3)), pile[1:3])
        both = [letter("ann", 7, deal="lost"), letter("ann", 9, deal="lost")]
        self.chained(town, pile + both, ("twin", both[0][:3], both[1][:3]), both)

    def test_loose(self):
        town = town_of(clause())
        ring = [letter("ann", 1, 3), letter("ann", 2, 1, (GAP,)), letter("ann", 3, 2)]
        pile = ring + [letter("ann", 4, 3), letter("ann", 5, 5)]
        for one in ring:
            self.chained(town, pile, ("loose", one[:3]), ring)
        self.chained(town, pile, ("loose", name("ann", 5)), pile[4:])
        self.assertIsNone(chain(town, pile, {}, ("loose", name("ann", 4))))

    def test_behind(self):
        town = town_of(clause(), span=3)
        bell = [letter("bell", 1, time=4), letter("bell", 2, 1, time=5), letter("bell", 3, 2, time=9)]
        ann = line("ann", (0, JOIN), (1, NOTE, name("bell", 1), name("bell", 2), GAP))
        self.chained(town, bell + ann, ("behind", name("ann", 2)), [bell[1], ann[1]])
        self.chained(town, [bell[1], ann[1]], ("behind", name("ann", 2)), [bell[1], ann[1]])

    def test_ahead(self):
        town = town_of(clause(), span=3)
        ann = line("ann", (5, JOIN, GAP), (6, NOTE))
        comings = {ANN: 1, name("ann", 2): 2, GAP: 0}
        self.chained(town, ann, ("ahead", ANN), ann[:1], comings)
        self.chained(town, ann, ("ahead", name("ann", 2)), ann[1:], comings)
        self.assertIsNone(chain(town, ann, {ANN: 2, name("ann", 2): 3}, ("ahead", ANN)))
        self.assertIsNone(chain(town, ann, {}, ("ahead", ANN)))
        self.assertIsNone(chain(town, ann, comings, ("ahead", GAP)))


class NoChain(unittest.TestCase):
    TOWN = town_of(clause(conds=[("said", 1, "go")]))
    PILE = line("bob", (0, GO)) + line("ann", (1, JOIN, BOB), (2, NOTE, GAP))

    def test_claims_that_are_not_told(self):
        sure = told(self.TOWN, self.PILE, {})
        self.assertEqual(sure, [("held", ANN, 0, 6)])
        names = [ANN, BOB, GAP, name("ann", 2), name("ann", 3), name("zed", 1), name("ann", 1, "lost")]
        for claim in claims_on(names):
            self.assertIs(chain(self.TOWN, self.PILE, {}, claim) is None, claim not in sure, claim)
            self.assertIsNone(chain(self.TOWN, [], {}, claim))
            self.assertIsNone(chain((0, {}), [], {}, claim))

    def test_anything(self):
        for pile in [[], self.PILE]:
            for thing in ANYTHING + NO_CLAIMS:
                self.assertIsNone(chain(self.TOWN, pile, {}, thing), thing)

    def test_truths_are_no_numbers(self):
        self.assertIsNotNone(chain(self.TOWN, self.PILE, {}, ("held", ANN, 0, 6)))
        self.assertIsNone(chain(self.TOWN, self.PILE, {}, ("held", ANN, False, 6)))
        self.assertIsNone(chain(self.TOWN, self.PILE, {}, ("held", ("ann", "sale", True), 0, 6)))


class MadePiles(Chained):
    def test_each_told_claim_has_a_chain(self):
        by_wholes, by_gaps = set(), set()
        for seed in range(120):
            maker = PileMaker(seed)
            town = maker.town()
            whole = maker.whole(town, 14)
            comings = maker.comings(whole)
            for pile in [whole, maker.some(whole, 3), gappy(maker, town, 2)]:
                pile = pile + pile[:2]
                for claim in told(town, pile, comings):
                    self.is_chain(town, pile, comings, claim, chain(town, pile, comings, claim))
                    if is_whole(pile):
                        by_wholes.add(claim[0])
                    else:
                        by_gaps.add(claim[0])
        self.assertLessEqual(SORTS - {"behind"}, by_wholes)
        self.assertLessEqual(SORTS - {"behind"}, by_gaps)

    def test_none_of_what_is_not_told(self):
        for seed in range(60):
            maker = PileMaker(seed)
            town = maker.town()
            whole = maker.whole(town, 14)
            comings = maker.comings(whole)
            pile = maker.some(whole, 4)
            sure = told(town, pile, comings)
            for claim in slow_read(town, whole, comings):
                self.assertIs(chain(town, pile, comings, claim) is None, claim not in sure, (seed, claim))

    def test_what_is_taken_by_a_chain_is_told_of_each_pile_that_has_it(self):
        for seed in range(60):
            maker = PileMaker(seed)
            town = maker.town()
            whole = maker.whole(town, 14)
            comings = maker.comings(whole)
            for claim in told(town, maker.some(whole, 4), comings):
                links = chain(town, whole, comings, claim)
                self.assertTrue(takes(town, claim, links, some_comings(comings, links)))
                aside = [one for one in whole if one not in links and maker.chance.random() < 0.5]
                self.assertTrue(takes(town, claim, aside + links, comings))

    def test_many_letters(self):
        town = town_of(clause(within=500, conds=[("said", 1, "go")]))
        bob = line("bob", *[(0, GO if nr == 80 else NOTE) for nr in range(1, 101)])
        cid = line("cid", *[(0, NOTE)] * 100)
        ann = line("ann", (1, JOIN), *[(nr, NOTE, name("bob", nr), name("cid", nr)) for nr in range(2, 101)])
        pile = cid + ann + bob
        self.assertEqual(len(pile), 300)
        links = chain(town, pile, {}, ("held", name("ann", 100), 0, 580))
        self.assertEqual(links, ann + bob)
        self.assertEqual(chain(town, pile, {}, ("held", name("ann", 80), 0, 580)), ann[:80] + bob[:80])


class OwnThings(unittest.TestCase):
    def test_what_is_handed_in_stays_and_what_is_told_is_the_askers_own(self):
        town = town_of(clause())
        pile = line("ann", (1, JOIN, BOB), (9, NOTE)) + line("bob", (0, NOTE))
        comings = {ANN: 0}
        given = copy.deepcopy((town, pile, comings))
        for claim in [("held", ANN, 0, 6), ("late", name("ann", 2), 0), ("ahead", ANN)]:
            kept = list(chain(town, pile, comings, claim))
            for turn in range(2):
                found = chain(town, pile, comings, claim)
                self.assertEqual(found, kept)
                found.append("x")
                found.reverse()
            self.assertEqual((town, pile, comings), given)
        self.assertEqual(len(named(pile)), 3)


if __name__ == "__main__":
    unittest.main()
