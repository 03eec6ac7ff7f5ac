import copy
import itertools
import unittest

from fillings import gappy
from holdword.books import joined, short
from holdword.errors import HoldError, NoPile
from holdword.judges import Judge
from holdword.judging import told
from plain import PileMaker
from samples import GO, JOIN, NOTE, clause, letter, line, name, town_of

ANN = name("ann", 1)
BOB = name("bob", 1)
TOWN = town_of(clause(conds=[("said", 1, "go")]), span=1)
PILE = line("bob", (0, GO)) + line("ann", (1, JOIN, BOB), (2, ("do", 0, 0)), (1, NOTE))
ALL = [("back", name("ann", 3)), ("held", ANN, 0, 6), ("kept", name("ann", 2), 0), ("kept", name("ann", 3), 0)]


def told_by(town, book):
    return told(town, list(book), {one[:3]: time for one, time in book.items()})


class Comes(unittest.TestCase):
    def test_nothing_came(self):
        judge = Judge(TOWN)
        self.assertEqual((judge.told(), judge.book()), ([], {}))
        judge.cut()
        self.assertEqual((judge.told(), judge.book()), ([], {}))

    def test_one_by_one(self):
        judge = Judge(TOWN)
        self.assertEqual(judge.come(PILE[0], 5), [])
        self.assertEqual(judge.come(PILE[1], 5), [("held", ANN, 0, 6)])
        self.assertEqual(judge.come(PILE[2], 5), [("kept", name("ann", 2), 0)])
        self.assertEqual(judge.come(PILE[3], 5), [("back", name("ann", 3)), ("kept", name("ann", 3), 0)])
        self.assertEqual(judge.told(), ALL)
        self.assertEqual(judge.book(), dict.fromkeys(PILE, 5))

    def test_out_of_order(self):
        judge = Judge(TOWN)
        self.assertEqual(judge.come(PILE[3], 5), [])
        self.assertEqual(judge.come(PILE[2], 6), [("back", name("ann", 3))])
        self.assertEqual(judge.come(PILE[1], 7), [])
        self.assertEqual(judge.come(PILE[0], 8), [claim for claim in ALL if claim[0] != "back"])
        self.assertEqual(judge.told(), ALL)
        self.assertEqual(judge.book(), dict(zip(PILE, [8, 7, 6, 5])))

    def test_all_orders(self):
        for order in itertools.permutations(PILE):
            judge = Judge(TOWN)
            found = []
            for one in order:
                new = judge.come(one, 5)
                self.assertEqual(new, sorted(set(new) - set(found)))
                found += new
                self.assertEqual(judge.told(), sorted(found))
                self.assertEqual(judge.told(), told_by(TOWN, judge.book()))
                self.assertEqual(judge.come(one, 5), [])
            self.assertEqual(judge.told(), ALL)

    def test_again_at_other_times(self):
        judge = Judge(TOWN)
        self.assertEqual(judge.come(PILE[2], 2), [])
        self.assertEqual(judge.come(PILE[2], 9), [])
        self.assertEqual(judge.book(), {PILE[2]: 2})
        self.assertEqual(judge.come(PILE[2], 1), [])
        self.assertEqual(judge.book(), {PILE[2]: 1})
        self.assertEqual(judge.come(PILE[2], 0), [("ahead", name("ann", 2))])
        self.assertEqual(judge.come(PILE[2], 0), [])
        self.assertEqual(judge.come(PILE[2], 7), [])
        self.assertEqual(judge.book(), {PILE[2]: 0})
        self.assertEqual(judge.told(), [("ahead", name("ann", 2))])

    def test_through_other_rows(self):
        # What comes last stands in the row of a got, far from the letter of which more is told.
        town = town_of(clause(conds=[("said", 1, "go")]))
        bob = line("bob", (0, GO), (0, NOTE), (0, NOTE))
        ann = line("ann", (1, JOIN, name("bob", 3)), (1, NOTE), (2, NOTE))
        for last in bob + ann:
            judge = Judge(town)
            for one in bob + ann:
                if one != last:
                    judge.come(one, 9)
            self.assertNotIn(("held", name("ann", 3), 0, 6), judge.told())
            self.assertIn(("held", name("ann", 3), 0, 6), judge.come(last, 9))

    def test_a_name_that_another_one_has(self):
        judge = Judge(TOWN)
        for one in PILE:
            judge.come(one, 3)
        judge.come(PILE[0], 2)
        before = (judge.told(), judge.book())
        for one in PILE:
            for at, value in [(3, 7), (4, (("cid", "sale", 1),)), (5, 60), (6, ("say", "no"))]:
                other = one[:at] + (value,) + one[at + 1:]
                for time in (0, 3, 9):
                    with self.assertRaises(NoPile) as caught:
                        judge.come(other, time)
                    self.assertIsNone(caught.exception.row)
                    self.assertIsInstance(caught.exception, HoldError)
                    self.assertEqual((judge.told(), judge.book()), before)
        self.assertEqual(judge.come(letter("cid", 1), 3), [])
        self.assertEqual(judge.told(), ALL)

    def test_made_letters(self):
        for seed in range(60):
            maker = PileMaker(seed)
            town = maker.town()
            pile = maker.whole(town, 14)
            pile = maker.some(gappy(maker, town, 2) if seed % 3 == 0 else pile, seed % 4)
            order = maker.chance.sample(pile + pile[:4], len(pile[:4]) + len(pile))
            judge = Judge(town)
            found = []
            for one in order:
                new = judge.come(one, max(0, one[5] + maker.chance.choice([-3, 0, 0, 2])))
                self.assertEqual(new, sorted(set(new) - set(found)), seed)
                found += new
                self.assertEqual(sorted(found), told_by(town, judge.book()), seed)
                self.assertEqual(judge.told(), sorted(found), seed)
            self.assertEqual(set(judge.book()), set(pile))

    def test_all_letters_come_to_what_their_pile_comes_to(self):
        for seed in range(30):
            maker = PileMaker(seed)
            town = maker.town()
            pile = maker.whole(town, 14)
            comings = {one[:3]: max(0, one[5] + maker.chance.choice([-3, 0])) for one in pile}
            judges = [Judge(town), Judge(town)]
            for at, judge in enumerate(judges):
                for one in maker.chance.sample(pile, len(pile)):
                    judge.come(one, comings[one[:3]] + at)
                    judge.come(one, comings[one[:3]])
                self.assertEqual(judge.told(), told(town, pile, comings))
            self.assertEqual(judges[0].book(), judges[1].book())
            self.assertEqual(joined([judge.book() for judge in judges]), judges[0].book())

    def test_many_letters(self):
        town = town_of(clause(within=500, conds=[("said", 1, "go")]))
        bob = line("bob", *[(0, GO if nr == 50 else NOTE) for nr in range(1, 101)])
        ann = line("ann", (1, JOIN), *[(nr, NOTE, name("bob", nr)) for nr in range(2, 101)])
        cid = line("cid", *[(0, NOTE, name("ann", nr)) for nr in range(1, 101)])
        for order in [bob + ann + cid, (ann + cid + bob)[::-1]]:
            judge = Judge(town)
            for one in order:
                judge.come(one, 900)
            self.assertEqual(judge.told(), [("held", name("ann", nr), 0, 550) for nr in range(50, 101)])
        judge.cut()
        self.assertEqual(set(judge.book()), set(ann + bob))


class Cut(unittest.TestCase):
    def test_just_the_chains(self):
        judge = Judge(TOWN)
        aside = line("cid", (0, NOTE), (0, NOTE, ANN)) + line("bob", (0, GO), deal="lost")
        for at, one in enumerate(PILE[:3] + aside):
            judge.come(one, at)
        self.assertEqual(len(judge.book()), 6)
        before = judge.told()
        self.assertEqual(before, [("held", ANN, 0, 6), ("kept", name("ann", 2), 0)])
        self.assertIsNone(judge.cut())
        self.assertEqual(judge.told(), before)
        self.assertEqual(judge.book(), dict(zip(PILE, [0, 1, 2])))
        self.assertEqual(judge.come(PILE[3], 4), [("back", name("ann", 3)), ("kept", name("ann", 3), 0)])
        self.assertEqual(judge.told(), ALL)

    def test_where_nothing_is_told(self):
        judge = Judge(TOWN)
        judge.come(PILE[0], 3)
        judge.cut()
        self.assertEqual((judge.told(), judge.book()), ([], {}))
        # What was cut away is not there any more, so further letters come to less, till it comes again.
        self.assertEqual(judge.come(PILE[1], 3), [])
        self.assertEqual(judge.come(PILE[0], 9), [("held", ANN, 0, 6)])
        self.assertEqual(judge.book(), {PILE[0]: 9, PILE[1]: 3})

    def test_a_name_whose_letter_was_cut_away(self):
        judge = Judge(TOWN)
        judge.come(letter("cid", 1), 3)
        judge.come(PILE[3], 3)
        judge.come(PILE[2], 3)
        judge.cut()
        self.assertEqual(judge.come(letter("cid", 1, deed=GO), 4), [])
        self.assertEqual(set(judge.book()), {PILE[2], PILE[3], letter("cid", 1, deed=GO)})
        with self.assertRaises(NoPile):
            judge.come(letter("ann", 3), 4)

    def test_ahead_stays(self):
        judge = Judge(TOWN)
        judge.come(PILE[2], 3)
        judge.come(PILE[2], 0)
        for turn in range(3):
            judge.cut()
            self.assertEqual((judge.told(), judge.book()), ([("ahead", name("ann", 2))], {PILE[2]: 0}))
            self.assertEqual(judge.come(PILE[2], 5), [])

    def test_made_letters(self):
        for seed in range(80):
            maker = PileMaker(seed)
            town = maker.town()
            pile = maker.some(maker.whole(town, 16), seed % 3)
            judge, other = Judge(town), Judge(town)
            for one in pile:
                time = max(0, one[5] + maker.chance.choice([-3, 0, 0, 2]))
                judge.come(one, time)
                other.come(one, time)
                if maker.chance.random() < 0.2:
                    before, book = judge.told(), judge.book()
                    judge.cut()
                    self.assertEqual(judge.told(), before)
                    self.assertEqual(judge.book(), short(town, book, before))
                self.assertEqual(judge.told(), told_by(town, judge.book()), seed)
                self.assertLessEqual(set(judge.told()), set(other.told()), seed)


class OwnThings(unittest.TestCase):
    def test_two_judges_side_by_side(self):
        towns = [TOWN, TOWN, town_of(clause(within=9)), (0, {})]
        judges = [Judge(town) for town in towns]
        for one in PILE[:2]:
            for judge in judges:
                judge.come(one, 1)
        self.assertEqual([judge.told() for judge in judges],
                         [[("held", ANN, 0, 6)], [("held", ANN, 0, 6)], [("held", ANN, 0, 10)], []])
        judges[0].cut()
        judges[1].come(PILE[2], 0)
        self.assertEqual(judges[0].told(), [("held", ANN, 0, 6)])
        self.assertEqual(judges[1].told(), [("ahead", name("ann", 2)), ("held", ANN, 0, 6), ("kept", name("ann", 2), 0)])
        self.assertEqual(judges[2].book(), dict.fromkeys(PILE[:2], 1))

    def test_what_is_told_is_the_askers_own(self):
        judge = Judge(TOWN)
        for one in PILE:
            judge.come(one, 5).append("x")
            judge.told().clear()
            judge.book().clear()
        judge.told().append("x")
        judge.book()[PILE[0]] = 0
        self.assertEqual(judge.told(), ALL)
        self.assertEqual(judge.book(), dict.fromkeys(PILE, 5))
        before = (judge.told(), judge.book())
        kept = copy.deepcopy(before)
        judge.come(letter("cid", 2, 2), 3)
        judge.cut()
        self.assertEqual(before, kept)

    def test_what_is_handed_in_stays_and_may_be_changed(self):
        town = (TOWN[0], dict(TOWN[1]))
        judge = Judge(town)
        for one in PILE[:3]:
            judge.come(one, 5)
        judge.cut()
        self.assertEqual(town, TOWN)
        town[1].clear()
        self.assertEqual(judge.come(PILE[3], 5), [("back", name("ann", 3)), ("kept", name("ann", 3), 0)])


if __name__ == "__main__":
    unittest.main()
