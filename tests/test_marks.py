import copy
import unittest

from holdword.marks import marks
from holdword.piles import is_pile
from plain import PileMaker, slow_marks
from samples import NOTE, letter, line, name, town_of, clause

TOWN = town_of(clause(), span=3)


class Marks(unittest.TestCase):
    def marked(self, pile, claims, comings=None, town=TOWN):
        self.assertTrue(is_pile(pile))
        for order in [pile, pile[::-1], pile + pile]:
            self.assertEqual(marks(town, order, comings or {}), claims)

    def test_nothing(self):
        self.marked([], [])
        self.marked(line("ann", (1, NOTE), (1, NOTE), (7, NOTE)), [])
        self.marked([], [], {name("ann", 1): 0})

    def test_back(self):
        self.marked(line("ann", (5, NOTE), (5, NOTE)), [])
        self.marked(line("ann", (5, NOTE), (4, NOTE)), [("back", name("ann", 2))])
        self.marked(line("ann", (5, NOTE), (3, NOTE), (4, NOTE)), [("back", name("ann", 2))])
        self.marked(line("ann", (5, NOTE), (4, NOTE), (3, NOTE)), [("back", name("ann", 2)), ("back", name("ann", 3))])

    def test_back_is_of_the_letter_followed_on(self):
        self.marked([letter("ann", 2, time=5), letter("ann", 1, 2, time=4)], [("back", name("ann", 1))])
        self.marked([letter("ann", 2, 1, time=4)], [])
        self.marked([letter("ann", 2, 1, time=4), letter("bob", 1, time=5), letter("ann", 1, time=5, deal="rent")], [])
        self.marked([letter("ann", 4, 4, time=4)], [("loose", name("ann", 4))])
        self.marked([letter("ann", 1, 2, time=4), letter("ann", 2, 1, time=5)],
                    [("back", name("ann", 1)), ("loose", name("ann", 1)), ("loose", name("ann", 2))])

    def test_twin(self):
        pile = line("ann", (0, NOTE), (0, NOTE)) + [letter("ann", 7, 1)]
        self.marked(pile, [("twin", name("ann", 2), name("ann", 7))])
        self.marked([letter("ann", 10, 9), letter("ann", 7, 9)], [("twin", name("ann", 7), name("ann", 10))])

    def test_twin_without_prev(self):
        self.marked([letter("ann", 1), letter("ann", 3)], [("twin", name("ann", 1), name("ann", 3))])

    def test_three_twins(self):
        self.marked([letter("ann", nr, 5) for nr in (9, 1, 4)],
                    [("twin", name("ann", 1), name("ann", 4)), ("twin", name("ann", 1), name("ann", 9)),
                     ("twin", name("ann", 4), name("ann", 9))])

    def test_no_twins(self):
        self.marked([letter("ann", 1), letter("bob", 1), letter("ann", 1, deal="rent"), letter("bell", 1)], [])
        self.marked([letter("ann", 2, 1), letter("bob", 2, 1), letter("ann", 2, 1, deal="rent"), letter("ann", 3, 2)], [])
        self.marked([letter("ann", 1), letter("ann", 1)], [])

    def test_loose(self):
        self.marked([letter("ann", 4, 4)], [("loose", name("ann", 4))])
        self.marked([letter("ann", 4, 2), letter("ann", 2, 4)], [("loose", name("ann", 2)), ("loose", name("ann", 4))])
        ring = [letter("ann", 1, 3), letter("ann", 2, 1), letter("ann", 3, 2)]
        self.marked(ring, [("loose", name("ann", nr)) for nr in (1, 2, 3)])

    def test_loose_are_those_of_the_ring_alone(self):
        pile = [letter("ann", 1, 1), letter("ann", 2, 1), letter("ann", 3, 2)]
        self.marked(pile, [("loose", name("ann", 1)), ("twin", name("ann", 1), name("ann", 2))])
        pile = [letter("ann", 1, 2), letter("ann", 2, 1), letter("ann", 3, 4), letter("ann", 4, 5), letter("ann", 5, 1)]
        self.marked(pile, [("loose", name("ann", 1)), ("loose", name("ann", 2)), ("twin", name("ann", 2), name("ann", 5))])
        self.marked([letter("ann", 1, 2), letter("ann", 2, 3)], [])
        self.marked([letter("ann", 1, 2), letter("bob", 2, 1)], [])

    def test_behind(self):
        for time, claims in [(8, []), (9, [("behind", name("ann", 1))])]:
            self.marked([letter("bell", 1, time=time), letter("ann", 1, 0, (name("bell", 1),), time=5)], claims)
        for span, claims in [(4, []), (3, [("behind", name("ann", 1))])]:
            pile = [letter("bell", 1, time=9), letter("ann", 1, 0, (name("bell", 1),), time=5)]
            self.marked(pile, claims, town=town_of(clause(), span=span))

    def test_behind_is_by_gots_of_bells(self):
        self.marked([letter("bob", 1, time=90), letter("ann", 1, 0, (name("bob", 1),), time=5)], [])
        self.marked([letter("bell", 1, time=90), letter("ann", 1, time=5)], [])
        self.marked(line("bell", (90, NOTE), (91, NOTE)) + [letter("ann", 1, 0, (name("bell", 5),), time=5)], [])
        gots = (name("bell", 1), name("bell", 2))
        self.marked(line("bell", (0, NOTE), (9, NOTE)) + [letter("ann", 1, 0, gots, time=5)], [("behind", name("ann", 1))])
        self.marked(line("bell", (9, NOTE), (9, NOTE)) + [letter("ann", 1, 0, gots, time=5)], [("behind", name("ann", 1))])
        # What stands ahead in the row of a got is not among the gots.
        self.marked([letter("bell", 1, time=90), letter("bell", 2, 1, time=5), letter("ann", 1, 0, gots[1:], time=5)],
                    [("back", name("bell", 2))])

    def test_behind_is_of_bells_letters_too(self):
        got = name("bell", 1, "rent")
        self.marked([letter("bell", 1, time=9, deal="rent"), letter("bell", 1, 0, (got,), time=5)],
                    [("behind", name("bell", 1))])

    def test_ahead(self):
        for came, claims in [(2, []), (1, [("ahead", name("ann", 1))]), (0, [("ahead", name("ann", 1))]), (99, [])]:
            self.marked([letter("ann", 1, time=5)], claims, {name("ann", 1): came})
        for span, claims in [(4, []), (3, [("ahead", name("ann", 1))])]:
            self.marked([letter("ann", 1, time=5)], claims, {name("ann", 1): 1}, town_of(clause(), span=span))

    def test_ahead_without_a_coming(self):
        comings = {name("bob", 1): 0, name("ann", 2): 0, name("ann", 1, "rent"): 0}
        self.marked([letter("ann", 1, time=99)], [], comings)
        self.marked([letter("ann", 1, time=99), letter("bell", 1, time=99)], [("ahead", name("bell", 1))],
                    {name("bell", 1): 95})

    def test_deals_that_the_town_has_not(self):
        for town in [(3, {}), TOWN]:
            ring = [letter("zed", 1, 1, deal="lost"), letter("zed", 2, 1, deal="lost")]
            self.marked(ring, [("loose", name("zed", 1, "lost")), ("twin", name("zed", 1, "lost"), name("zed", 2, "lost"))],
                        town=town)
            pile = line("zed", (5, NOTE), (4, NOTE, name("bell", 1, "lost")), deal="lost")
            pile.append(letter("bell", 1, time=8, deal="lost"))
            self.marked(pile, [("ahead", name("zed", 1, "lost")), ("back", name("zed", 2, "lost")),
                               ("behind", name("zed", 2, "lost"))], {name("zed", 1, "lost"): 1}, town)

    def test_each_in_its_kind(self):
        pile = [letter("ann", 1, 1, time=9), letter("ann", 2, 1, (name("bell", 1),), time=1), letter("bell", 1, time=5)]
        told = marks(TOWN, pile, {name("ann", 1): 0})
        self.assertEqual(told, [("ahead", name("ann", 1)), ("back", name("ann", 2)), ("behind", name("ann", 2)),
                                ("loose", name("ann", 1)), ("twin", name("ann", 1), name("ann", 2))])
        self.assertIs(type(told), list)
        for claim in told:
            self.assertIs(type(claim), tuple)

    def test_what_is_handed_in_stays_and_what_is_told_is_the_askers_own(self):
        pile = [letter("ann", 1, 1, time=9), letter("ann", 2, 1)]
        comings = {name("ann", 1): 0}
        given = copy.deepcopy((TOWN, pile, comings))
        told = marks(TOWN, pile, comings)
        kept = list(told)
        told.clear()
        self.assertEqual(marks(TOWN, pile, comings), kept)
        self.assertEqual(marks(TOWN, [], {}), [])
        self.assertEqual(marks(TOWN, pile, comings), kept)
        self.assertEqual((TOWN, pile, comings), given)

    def test_three_hundred_letters(self):
        ring = [letter("ann", nr, nr - 1 or 300) for nr in range(1, 301)]
        self.assertEqual(marks(TOWN, ring, {}), [("loose", name("ann", nr)) for nr in range(1, 301)])
        self.assertEqual(marks(TOWN, ring[1:], {}), [])

    def test_made_piles(self):
        for seed in range(150):
            maker = PileMaker(seed)
            town = maker.town()
            pile = maker.whole(town, 14)
            comings = maker.comings(pile)
            self.assertEqual(marks(town, pile, comings), sorted(slow_marks(town, pile, comings)))
            pile = maker.some(pile, 5)
            self.assertEqual(marks(town, pile, comings), sorted(slow_marks(town, pile, comings)))


if __name__ == "__main__":
    unittest.main()
