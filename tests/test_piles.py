import copy
import unittest

from holdword.piles import gaps, is_pile, is_whole
from samples import ANYTHING, letter

ONE = letter("ann", 1)
TWO = letter("ann", 2, 1)
BOB = letter("bob", 1, 0, (("ann", "sale", 2),))


class Piles(unittest.TestCase):
    def test_piles(self):
        for pile in [[], [ONE], [ONE, TWO, BOB], [BOB, TWO], [TWO], [ONE, ONE], [ONE, BOB, ONE, TWO, BOB]]:
            self.assertIs(is_pile(pile), True)

    def test_unlike_letters_of_one_name(self):
        for other in [letter("ann", 1, 2), letter("ann", 1, gots=(("bob", "sale", 1),)), letter("ann", 1, time=1),
                      letter("ann", 1, deed=("join",))]:
            self.assertIs(is_pile([other]), True)
            for pile in [[ONE, other], [other, ONE], [ONE, TWO, other], [ONE, ONE, other], [other, TWO, BOB, ONE, ONE]]:
                self.assertIs(is_pile(pile), False)

    def test_letters_of_unlike_names(self):
        pile = [ONE, letter("ann", 1, deal="rent", time=1), letter("bob", 1, time=2), letter("ann", 3, time=3)]
        self.assertIs(is_pile(pile), True)

    def test_no_lists(self):
        for thing in [(), (ONE,), {}, {ONE: 1}, {ONE}, set(), ONE, None, "", "ab", 0, True, b"", iter([ONE])]:
            self.assertIs(is_pile(thing), False)

    def test_no_letters(self):
        for thing in ANYTHING:
            self.assertIs(is_pile(thing), False, thing)
            for pile in [[thing], [ONE, thing], [thing, ONE]]:
                self.assertIs(is_pile(pile), False, thing)
        for thing in [list(ONE), ONE[:6], ONE[:3], [ONE], letter("ann", 0), letter("ann", True), letter("ann", 1, -1)]:
            self.assertIs(is_pile([thing]), False, thing)
            self.assertIs(is_pile([TWO, thing]), False, thing)

    def test_three_hundred_letters(self):
        pile = [letter("ann", nr, nr - 1) for nr in range(1, 301)]
        self.assertIs(is_pile(pile), True)
        self.assertIs(is_whole(pile[::-1]), True)


class Whole(unittest.TestCase):
    def test_whole(self):
        for pile in [[], [ONE], [ONE, TWO], [TWO, ONE], [ONE, TWO, BOB], [BOB, ONE, TWO, BOB]]:
            self.assertIs(is_whole(pile), True)

    def test_not_whole_by_prev(self):
        for pile in [[TWO], [ONE, letter("ann", 3, 2)], [TWO, letter("ann", 1, deal="rent")], [TWO, letter("bob", 1)]]:
            self.assertIs(is_whole(pile), False)

    def test_not_whole_by_gots(self):
        for pile in [[BOB], [ONE, BOB], [TWO, BOB],
                     [ONE, TWO, letter("bob", 1, 0, (("ann", "sale", 2), ("cid", "sale", 1)))]]:
            self.assertIs(is_whole(pile), False)

    def test_letters_that_go_round(self):
        self.assertIs(is_whole([letter("ann", 1, 1)]), True)
        self.assertIs(is_whole([letter("ann", 1, 2), letter("ann", 2, 1)]), True)


class Gaps(unittest.TestCase):
    def test_none(self):
        for pile in [[], [ONE], [ONE, TWO, BOB], [letter("ann", 4, 4)]]:
            self.assertEqual(gaps(pile), [])

    def test_prevs_and_gots(self):
        self.assertEqual(gaps([TWO]), [("ann", "sale", 1)])
        self.assertEqual(gaps([BOB]), [("ann", "sale", 2)])
        self.assertEqual(gaps([TWO, BOB]), [("ann", "sale", 1)])
        self.assertEqual(gaps([letter("ann", 5, 9)]), [("ann", "sale", 9)])
        self.assertEqual(gaps([letter("ann", 5, 9, deal="rent")]), [("ann", "rent", 9)])

    def test_rising_and_each_once(self):
        pile = [letter("bob", 9, 8, (("ann", "sale", 10), ("ann", "sale", 11), ("cid", "rent", 2))),
                letter("cid", 1, 0, (("ann", "sale", 2), ("ann", "sale", 10), ("bob", "rent", 8), ("bob", "sale", 8))),
                letter("bob", 10, 8, (("ann", "sale", 10),)),
                letter("ann", 11, 9)]
        told = [("ann", "sale", 2), ("ann", "sale", 9), ("ann", "sale", 10), ("bob", "rent", 8), ("bob", "sale", 8),
                ("cid", "rent", 2)]
        for order in [pile, pile[::-1], pile + pile]:
            self.assertEqual(gaps(order), told)
        self.assertIs(type(gaps(pile)), list)

    def test_whole_is_without_gaps(self):
        for pile in [[], [ONE], [TWO], [BOB], [ONE, TWO, BOB], [BOB, TWO], [letter("ann", 2, 2)]]:
            self.assertIs(is_whole(pile), gaps(pile) == [])


class Kept(unittest.TestCase):
    def test_what_is_handed_in_stays(self):
        pile = [BOB, TWO, BOB]
        kept = copy.deepcopy(pile)
        told = (is_pile(pile), is_whole(pile), gaps(pile))
        self.assertEqual(pile, kept)
        self.assertEqual((is_pile(pile), is_whole(pile), gaps(pile)), told)

    def test_what_is_told_is_the_askers_own(self):
        pile = [TWO]
        told = gaps(pile)
        told.append("x")
        self.assertEqual(gaps(pile), [("ann", "sale", 1)])
        empty = gaps([])
        empty.append("x")
        self.assertEqual(gaps([]), [])
        self.assertIs(is_whole([]), True)


if __name__ == "__main__":
    unittest.main()
