import copy
import random
import unittest

from fillings import bits, fillings, gappy, wild
from holdword.judging import told
from holdword.piles import gaps, is_pile, is_whole
from holdword.reading import read
from plain import PileMaker, named, slow_read
from samples import GO, JOIN, NOTE, clause, letter, line, name, town_of

ANN = name("ann", 1)
BOB = name("bob", 1)
CID = name("cid", 1)
GAP = name("bob", 5)
DEEDS = [JOIN, NOTE, GO, ("say", "no"), ("do", 0, 0), ("do", 0, 1), ("do", 1, 0), ("free", 0), ("free", 1), ("ready", 0),
         ("ready", 1), ("hand", 0, "ann"), ("hand", 0, "bob"), ("hand", 0, "cid"), ("hand", 1, "cid"), ("quit", 0)]


class Judged(unittest.TestCase):
    def told_of(self, town, pile, of, claims, comings=None):
        """Of the letter of a name just these are told, and what is told is said of wholes that are made wildly."""
        self.assertTrue(is_pile(pile))
        for order in [pile, pile[::-1], pile + pile]:
            found = told(town, order, comings or {})
            self.assertEqual([claim for claim in found if claim[1] == of], claims)
        for seed in range(5):
            whole = wild(pile, DEEDS, random.Random(seed))
            self.assertTrue(is_whole(whole))
            self.assertLessEqual(set(found), set(slow_read(town, whole, comings or {})))


class Begun(Judged):
    def test_held_with_gaps_that_do_not_count(self):
        town = town_of(clause(within=50))
        for gap in [name("cid", 5), name("dan", 5), name("bob", 5, "rent"), name("bell", 5), name("eve", 5)]:
            self.told_of(town, line("ann", (1, JOIN, gap)), ANN, [("held", ANN, 0, 51)])

    def test_held_where_a_cond_may_be(self):
        town = town_of(clause(within=50, conds=[("said", 2, "go")]))
        cid = line("cid", (0, GO))
        pile = line("ann", (1, JOIN), (2, NOTE, name("cid", 5)), (3, NOTE))
        self.told_of(town, pile, name("ann", 3), [])
        pile = cid + line("ann", (1, JOIN, CID), (2, NOTE, name("cid", 5)), (3, NOTE))
        self.told_of(town, pile, name("ann", 3), [("held", name("ann", 3), 0, 51)])
        pile = cid + line("ann", (1, JOIN), (2, NOTE, name("cid", 5)), (3, NOTE, CID))
        self.told_of(town, pile, name("ann", 3), [])
        # Whichever place it is, the due is the same.
        pile = cid + line("ann", (1, JOIN), (3, NOTE, name("cid", 5)), (3, NOTE, CID))
        self.told_of(town, pile, name("ann", 3), [("held", name("ann", 3), 0, 53)])

    def test_held_ahead_of_the_start(self):
        town = town_of(clause(within=50, conds=[("said", 2, "go")]))
        pile = line("cid", (0, GO)) + line("ann", (1, NOTE, name("cid", 5)), (2, NOTE, CID), (3, JOIN))
        self.told_of(town, pile, name("ann", 3), [("held", name("ann", 3), 0, 53)])

    def test_held_by_close(self):
        cid = line("cid", (0, GO))
        own = name("ann", 3)
        pile = cid + line("ann", (1, JOIN), (6, NOTE, name("cid", 5)), (5, NOTE, CID))
        self.told_of(town_of(clause(conds=[("said", 2, "go")]), close=5), pile, own, [("back", own)])
        pile = cid + line("ann", (1, JOIN), (5, NOTE, name("cid", 5)), (5, NOTE, CID))
        self.told_of(town_of(clause(conds=[("said", 2, "go")]), close=5), pile, own, [("held", own, 0, 10)])
        self.told_of(town_of(clause(conds=[("said", 2, "go")]), close=4), pile, own, [])

    def test_another_house(self):
        town = town_of(clause(within=50))
        ann = [letter("ann", 3, deed=("hand", 0, "cid"))]
        own = name("cid", 3)
        self.told_of(town, line("cid", (1, ("ready", 0)), (2, NOTE, name("ann", 2)), (3, NOTE)), own, [])
        pile = ann + line("cid", (1, ("ready", 0), name("ann", 3)), (2, NOTE, name("ann", 2)), (3, NOTE))
        self.told_of(town, pile, own, [("held", own, 0, 51)])
        pile = ann + line("cid", (1, ("ready", 0)), (2, NOTE, name("ann", 2)), (3, NOTE, name("ann", 3)))
        self.told_of(town, pile, own, [])
        pile = ann + line("cid", (1, NOTE, name("ann", 2)), (2, NOTE, name("ann", 3)), (3, ("ready", 0)))
        self.told_of(town, pile, own, [("held", own, 0, 53)])

    def test_late(self):
        town = town_of(clause(within=5, conds=[("said", 2, "go")]))
        cid = line("cid", (0, GO))
        own = name("ann", 3)
        for last, claims in [(9, [("late", own, 0)]), (8, []), (7, []), (6, [])]:
            pile = cid + line("ann", (1, JOIN), (2, NOTE, name("cid", 5)), (last, NOTE))
            self.told_of(town, pile, own, [])
            pile = cid + line("ann", (2, JOIN, name("cid", 5)), (3, NOTE, CID), (last, NOTE))
            self.told_of(town, pile, own, claims)

    def test_kept(self):
        town = town_of(clause(within=5, conds=[("said", 2, "go")]))
        cid = line("cid", (0, GO))
        own = name("ann", 4)
        for pile, claims in [
                (line("ann", (1, JOIN), (2, NOTE, name("cid", 5)), (3, NOTE, CID), (4, ("do", 0, 0))), [("kept", own, 0)]),
                (line("ann", (1, JOIN), (2, NOTE, name("cid", 5)), (3, NOTE, CID), (7, ("do", 0, 0))), [("kept", own, 0)]),
                (line("ann", (1, JOIN), (2, NOTE, name("cid", 5)), (3, NOTE, CID), (8, ("do", 0, 0))), []),
                (line("ann", (1, JOIN), (2, NOTE, name("cid", 5)), (3, ("do", 0, 0)), (4, NOTE, CID)), []),
                (line("ann", (1, JOIN, CID), (2, NOTE, name("cid", 5)), (3, ("do", 0, 0)), (4, NOTE)), [("kept", own, 0)]),
                (line("ann", (1, JOIN), (2, NOTE, name("cid", 5)), (3, ("do", 0, 0)), (4, NOTE)), [])]:
            self.told_of(town, cid + pile, own, claims)

    def test_kept_where_it_may_be_ended(self):
        town = town_of(clause(within=5))
        own = name("ann", 2)
        self.told_of(town, line("ann", (1, JOIN, GAP), (2, ("do", 0, 0))), own, [("kept", own, 0)])

    def test_rows_without_a_beginning(self):
        town = town_of(clause(within=50))
        for pile in [[letter("ann", 2, 1, deed=JOIN), letter("ann", 3, 2)],
                     [letter("ann", 2, 1, deed=("free", 11)), letter("ann", 3, 2, deed=("quit", 9))],
                     [letter("ann", 2, 2, deed=("free", 11)), letter("ann", 3, 2, deed=("quit", 9))]]:
            found = told(town, pile, {})
            self.assertEqual([claim for claim in found if claim[0] not in ("loose", "twin")], [])

    def test_deals_that_the_town_has_not(self):
        pile = line("ann", (1, JOIN, GAP), (1, JOIN), (2, ("free", 3)), deal="lost")
        self.assertEqual(told(town_of(clause()), pile, {}), [])


class Ended(Judged):
    def test_free_through_gaps(self):
        town = town_of(clause(within=50))
        own = name("ann", 2)
        self.told_of(town, line("ann", (1, JOIN), (2, NOTE, GAP)), ANN, [("held", ANN, 0, 51)])
        self.told_of(town, line("ann", (1, JOIN), (2, NOTE, GAP)), own, [])
        self.told_of(town, line("ann", (1, JOIN, GAP), (2, NOTE)), own, [])
        self.told_of(town, line("ann", (1, JOIN), (60, NOTE, GAP)), own, [])
        pile = [letter("bob", 7, 6)] + line("ann", (1, JOIN), (2, NOTE, name("bob", 7)))
        self.told_of(town, pile, own, [])
        self.told_of(town, [letter("bob", 6)] + pile, own, [("held", own, 0, 51)])

    def test_sure_free(self):
        town = town_of(clause(within=50))
        pile = line("bob", (0, ("free", 0))) + line("ann", (1, JOIN, BOB), (2, NOTE, GAP))
        self.told_of(town, pile, name("ann", 2), [])

    def test_free_for_another_house(self):
        town = town_of(clause(within=50))
        pile = line("ann", (0, ("hand", 0, "cid"))) + line("cid", (1, ("ready", 0), ANN), (2, NOTE, name("dan", 1)), (3, NOTE, GAP))
        self.told_of(town, pile, name("cid", 2), [("held", name("cid", 2), 0, 51)])
        self.told_of(town, pile, name("cid", 3), [])

    def test_hands_are_never_hidden(self):
        town = town_of(clause(within=50))
        for gap in [name("cid", 5), name("dan", 5), name("ann", 5, "rent")]:
            own = name("ann", 2)
            self.told_of(town, line("ann", (1, JOIN, gap), (2, NOTE)), own, [("held", own, 0, 51)])
            pile = line("ann", (1, JOIN, gap), (2, ("hand", 0, "cid")), (3, NOTE))
            self.told_of(town, pile, name("ann", 3), [])

    def test_quits(self):
        town = town_of(clause(within=50, leave=(("said", 2, "no"), 4)))
        cid = line("cid", (0, ("say", "no")))
        own = name("ann", 3)
        held = [("held", own, 0, 51)]
        for pile, claims in [
                # The event may be seen by the quit: perhaps it is good, perhaps not.
                (line("ann", (1, JOIN), (5, ("quit", 0), name("cid", 5)), (6, NOTE)), []),
                (line("ann", (1, JOIN, name("cid", 5)), (5, ("quit", 0)), (6, NOTE)), []),
                # It may be seen behind the quit alone.
                (line("ann", (1, JOIN), (5, ("quit", 0)), (6, NOTE, name("cid", 5))), []),
                # It is seen, or the quit is no good one in whatever way.
                (line("ann", (1, JOIN, name("cid", 5)), (5, ("quit", 0), CID), (6, NOTE)), held),
                (line("ann", (1, JOIN), (4, ("quit", 0), name("cid", 5)), (6, NOTE)), held)]:
            self.told_of(town, cid + pile, own, claims)

    def test_quits_by_a_begin_that_may_be(self):
        town = town_of(clause(within=4, conds=[("said", 2, "go")], leave=(("said", 3, "no"), 3)))
        cid = line("cid", (0, GO))
        own = name("ann", 4)
        # The wait is over at the quit by the earlier begin only.
        pile = cid + line("ann", (1, JOIN), (2, NOTE, name("cid", 5)), (3, NOTE, CID), (5, ("quit", 0)), (8, NOTE))
        self.told_of(town, pile, own, [])
        self.told_of(town, pile, name("ann", 5), [])
        pile = cid + line("ann", (1, JOIN), (2, NOTE, name("cid", 5)), (3, NOTE, CID), (4, ("quit", 0)), (8, NOTE))
        self.told_of(town, pile, own, [("ill", own)])
        self.told_of(town, pile, name("ann", 5), [("late", name("ann", 5), 0)])
        pile = cid + line("ann", (1, JOIN), (2, NOTE, name("cid", 5)), (3, NOTE, CID), (6, ("quit", 0)), (8, NOTE))
        self.told_of(town, pile, own, [])
        self.told_of(town, pile, name("ann", 5), [])

    def test_several_quits(self):
        town = town_of(clause(within=50, leave=(("said", 2, "no"), 4)))
        own = name("ann", 4)
        pile = line("ann", (1, JOIN), (5, ("quit", 0)), (6, NOTE, name("cid", 5)), (7, ("quit", 0)))
        self.told_of(town, pile, own, [])
        pile = line("ann", (1, JOIN), (4, ("quit", 0)), (6, NOTE, name("cid", 5)), (7, ("quit", 0)))
        self.told_of(town, pile, own, [])


class Ill(Judged):
    def ills(self, town, pile, of, ill):
        self.told_of(town, pile, of, [("ill", of)] if ill else [])

    def test_what_hangs_on_no_other_row(self):
        town = town_of(clause(2, 3))
        for steps, ill in [([(1, JOIN, GAP), (1, JOIN)], True), ([(1, JOIN, GAP)], False), ([(1, ("free", 0), GAP)], True),
                           ([(1, ("ready", 0), GAP)], False), ([(1, ("ready", 0), GAP), (1, ("ready", 0))], True),
                           ([(1, ("do", 5, 0), GAP)], True), ([(1, GO, GAP)], False), ([(1, ("quit", 1), GAP)], True),
                           ([(1, ("hand", 7, "bob"), GAP)], True)]:
            self.ills(town, line("ann", *steps), name("ann", len(steps)), ill)

    def test_do(self):
        town = town_of(clause(within=2, conds=[("said", 1, "go")]))
        own = name("ann", 2)
        self.ills(town, line("ann", (1, JOIN), (2, ("do", 0, 0))), own, True)
        self.ills(town, line("ann", (1, JOIN), (2, ("do", 0, 0), name("cid", 5))), own, True)
        self.ills(town, line("ann", (1, JOIN), (2, ("do", 0, 0), GAP)), own, False)
        self.ills(town, line("ann", (1, JOIN, GAP), (2, ("do", 0, 0))), own, False)
        self.ills(town, line("ann", (1, JOIN), (2, ("do", 0, 0)), (3, NOTE, GAP)), own, True)
        self.ills(town, line("ann", (1, JOIN, GAP), (2, ("do", 0, 1))), own, True)
        self.ills(town, line("ann", (1, JOIN, GAP), (1, ("hand", 0, "eve")), (2, ("do", 0, 0))), name("ann", 3), True)
        self.ills(town, line("ann", (1, NOTE, GAP), (2, ("do", 0, 0))), own, True)

    def test_do_above_close(self):
        for close, ill in [(2, False), (1, True)]:
            town = town_of(clause(conds=[("said", 1, "go")]), close=close)
            self.ills(town, line("ann", (1, JOIN), (2, ("do", 0, 0), GAP)), name("ann", 2), ill)

    def test_do_of_another_house(self):
        town = town_of(clause())
        own = name("cid", 2)
        self.ills(town, line("cid", (1, ("ready", 0)), (2, ("do", 0, 0), name("ann", 5))), own, False)
        self.ills(town, line("cid", (1, NOTE), (2, ("do", 0, 0), name("ann", 5))), own, True)
        self.ills(town, line("cid", (1, ("ready", 0)), (2, ("do", 0, 0), GAP)), own, True)
        self.ills(town, line("eve", (1, ("ready", 0)), (2, ("do", 0, 0), name("ann", 5))), name("eve", 2), True)

    def test_hand(self):
        town = town_of(clause(within=1, conds=[("said", 3, "go")]))
        for gap, to, ill in [(name("cid", 5), "cid", False), (name("cid", 5), "dan", True), (GAP, "cid", True),
                             (name("cid", 5, "rent"), "cid", True), (GAP, "bob", True), (name("eve", 5), "eve", True)]:
            self.ills(town, line("ann", (1, JOIN), (2, ("hand", 0, to), gap)), name("ann", 2), ill)
            self.ills(town, line("ann", (1, JOIN, gap), (2, ("hand", 0, to))), name("ann", 2), ill)
            self.ills(town, line("ann", (1, NOTE, gap), (2, ("hand", 0, to))), name("ann", 2), True)
        pile = line("ann", (1, JOIN, name("cid", 5)), (2, ("hand", 0, "cid")), (2, ("hand", 0, "cid")))
        self.ills(town, pile, name("ann", 3), True)
        cid = line("cid", (0, ("ready", 0)))
        self.ills(town, cid + line("ann", (1, JOIN, CID), (2, ("hand", 0, "cid"), name("cid", 5))), name("ann", 2), False)

    def test_quit(self):
        town = town_of(clause(within=50, leave=(("said", 2, "no"), 4)))
        cid = line("cid", (0, ("say", "no")))
        own = name("ann", 2)
        held = ("held", own, 0, 51)
        for pile, claims in [(line("ann", (1, JOIN), (5, ("quit", 0), name("cid", 5))), []),
                             (line("ann", (1, JOIN), (5, ("quit", 0), CID)), [held, ("ill", own)]),
                             (line("ann", (1, JOIN), (5, ("quit", 0), CID, name("cid", 5))), [held, ("ill", own)]),
                             (line("ann", (1, JOIN), (4, ("quit", 0), name("cid", 5))), [held, ("ill", own)]),
                             (line("ann", (1, NOTE), (5, ("quit", 0), name("cid", 5))), [("ill", own)])]:
            self.told_of(town, cid + pile, own, claims)


class Marked(Judged):
    TOWN = town_of(clause(), span=3)

    def marked(self, pile, claims, comings=None):
        self.assertTrue(is_pile(pile))
        found = told(self.TOWN, pile, comings or {})
        self.assertEqual([claim for claim in found if claim[0] not in ("held", "ill")], claims)

    def test_back(self):
        pile = [letter("ann", 3, 2, time=5), letter("ann", 4, 3, time=4), letter("ann", 5, 4, time=3)]
        self.marked(pile, [("back", name("ann", 4)), ("back", name("ann", 5))])
        self.marked(pile[1:], [("back", name("ann", 5))])

    def test_twin(self):
        self.marked([letter("ann", 3, 2), letter("ann", 4, 2)], [("twin", name("ann", 3), name("ann", 4))])
        self.marked([letter("ann", 3, 2), letter("ann", 4, 5)], [])
        self.marked([letter("ann", 3), letter("bob", 1, 0, (name("ann", 4),))], [])

    def test_loose(self):
        ring = [letter("ann", 1, 3), letter("ann", 2, 1), letter("ann", 3, 2)]
        self.marked(ring, [("loose", name("ann", nr)) for nr in (1, 2, 3)])
        self.marked(ring[1:], [])
        self.marked(ring[:1], [])

    def test_behind(self):
        ann = letter("ann", 1, 0, (name("bell", 2), name("bell", 9)), time=5)
        self.marked([letter("bell", 2, 1, time=9), ann], [("behind", ANN)])
        self.marked([letter("bell", 2, 1, time=8), ann], [])
        self.marked([ann], [])

    def test_ahead(self):
        pile = [letter("ann", 3, 2, (GAP,), time=5)]
        for came, claims in [(1, [("ahead", name("ann", 3))]), (2, [])]:
            self.marked(pile, claims, {name("ann", 3): came, name("ann", 2): 0, GAP: 0})
        self.marked(pile, [], {name("ann", 2): 0, GAP: 0})


class Whole(Judged):
    TOWN = town_of(clause(within=5), clause(1, 0, within=2, conds=[("joined", 0)]), span=1)
    PILE = (line("ann", (1, JOIN), (3, ("do", 0, 0)), (2, ("do", 1, 0)))
            + line("bob", (1, JOIN, ANN), (4, NOTE)) + [letter("bell", 1, 1, deed=JOIN)])
    COMINGS = {name("ann", 2): 1, name("bob", 2): 9}

    def test_of_a_whole_pile_just_what_is_read(self):
        self.assertEqual(len(read(self.TOWN, self.PILE, self.COMINGS)), 9)
        self.assertEqual(told(self.TOWN, self.PILE, self.COMINGS), read(self.TOWN, self.PILE, self.COMINGS))
        self.assertEqual(told(self.TOWN, [], {}), [])

    def test_with_fewer_letters_less(self):
        everything = set(told(self.TOWN, self.PILE, self.COMINGS))
        for mask in range(1 << len(self.PILE)):
            some = [one for at, one in enumerate(self.PILE) if mask >> at & 1]
            self.assertLessEqual(set(told(self.TOWN, some, self.COMINGS)), everything)

    def test_kinds(self):
        found = told(self.TOWN, self.PILE[1:], self.COMINGS)
        self.assertIs(type(found), list)
        self.assertEqual(found, sorted(set(found)))
        for claim in told(self.TOWN, self.PILE, self.COMINGS):
            self.assertIs(type(claim), tuple)

    def test_two_piles_by_turns(self):
        given = copy.deepcopy((self.TOWN, self.PILE, self.COMINGS))
        other = line("ann", (1, JOIN), (2, NOTE, GAP))
        kept = (told(self.TOWN, self.PILE, self.COMINGS), told(self.TOWN, other, {}))
        self.assertEqual(kept[1], [("held", ANN, 0, 6)])
        for turn in range(2):
            found = (told(self.TOWN, self.PILE, self.COMINGS), told(self.TOWN, other, {}))
            self.assertEqual(found, kept)
            found[0].clear()
            found[1].append("x")
        self.assertEqual((self.TOWN, self.PILE, self.COMINGS), given)

    def test_three_hundred_letters(self):
        town = town_of(clause(within=500))
        pile = line("ann", (1, JOIN), *[(at, NOTE, name("cid", at)) for at in range(2, 301)])
        self.assertEqual(told(town, pile, {}), [("held", name("ann", nr), 0, 501) for nr in range(1, 301)])


class MadePiles(unittest.TestCase):
    def test_gaps_filled_in_all_ways(self):
        told_words, other_words = set(), set()
        for seed in range(400):
            maker = PileMaker(seed)
            town = maker.town(maker.chance.choice([1, 1, 2]))
            if maker.chance.random() < 0.5:
                pile = gappy(maker, town, maker.chance.randint(1, 4))
            else:
                pile = maker.some(maker.whole(town, maker.chance.randint(4, 12)), maker.chance.randint(1, 4))
            comings = maker.comings(pile)
            if gaps(pile) == [] or bits(town, pile) > 5:
                continue
            sure, maybe = None, set()
            for whole in fillings(town, pile):
                said = set(slow_read(town, whole, comings))
                sure = said if sure is None else sure & said
                maybe |= said
            self.assertEqual(told(town, pile, comings), sorted(sure), seed)
            told_words |= {claim[0] for claim in sure}
            other_words |= {claim[0] for claim in maybe - sure if claim[1] in named(pile)}
        self.assertLessEqual({"held", "kept", "late", "ill", "back", "twin", "loose", "ahead"}, told_words)
        self.assertLessEqual({"held", "kept", "late", "ill", "twin"}, other_words)

    def test_letters_of_all_kinds(self):
        for seed in range(150):
            maker = PileMaker(seed)
            town = maker.town()
            whole = maker.whole(town, 16)
            comings = maker.comings(whole)
            some = maker.some(whole, 5)
            fewer = maker.some(some, 3)
            found = set(told(town, some, comings))
            self.assertEqual(told(town, whole, comings), slow_read(town, whole, comings), seed)
            self.assertLessEqual(found, set(told(town, whole, comings)), seed)
            self.assertLessEqual(set(told(town, fewer, comings)), found, seed)
            for turn in range(3):
                made = wild(some, DEEDS, maker.chance)
                self.assertLessEqual(found, set(slow_read(town, made, comings)), seed)


if __name__ == "__main__":
    unittest.main()
