import copy
import unittest

from fillings import bits, fillings, gappy
from holdword.perhaps import begins, places
from holdword.piles import is_pile
from plain import Plain, PileMaker, named
from samples import GO, JOIN, NOTE, clause, letter, line, name, town_of

RENT = (("dan", "eve", "ann"), (), 9, (clause(0, 1), clause(1, 0, 3)))
TOWN = town_of(clause(), clause(2, 3, 2), others={"rent": RENT})


class Asked(unittest.TestCase):
    def asked(self, question, pile, told):
        """The same is told in whatever order the pile is."""
        self.assertTrue(is_pile(pile))
        for order in [pile, pile[::-1], pile + pile]:
            self.assertEqual(question(order), told)


class Places(Asked):
    def placed(self, pile, event, sure, perhaps, of=name("ann", 4), town=TOWN):
        self.asked(lambda order: places(town, order, of, event), pile, (sure, perhaps))

    def test_gots_that_are_gaps_themselves(self):
        ann = line("ann", (1, JOIN), (2, NOTE, name("bob", 7)), (3, NOTE), (4, NOTE))
        self.placed(ann, ("joined", 1), None, [2])
        self.placed(ann, ("said", 1, "go"), None, [2])
        self.placed(ann, ("said", 1, "no"), None, [2])

    def test_rows_that_end_at_a_gap(self):
        bob = [letter("bob", 8, 7), letter("bob", 9, 8)]
        ann = line("ann", (1, JOIN), (2, NOTE), (3, NOTE, name("bob", 9)), (4, NOTE))
        self.placed(bob + ann, ("joined", 1), None, [3])
        self.placed(bob[1:] + ann, ("joined", 1), None, [3])
        self.placed([letter("bob", 7)] + bob + ann, ("joined", 1), None, [])

    def test_the_first_place_with_such_a_got(self):
        bob = [letter("bob", 8, 7), letter("bob", 9, 7)]
        ann = line("ann", (1, JOIN), (2, NOTE, name("bob", 9)), (3, NOTE, name("bob", 8)), (4, NOTE, name("bob", 7)))
        self.placed(bob + ann, ("joined", 1), None, [2])

    def test_several_gaps(self):
        ann = line("ann", (1, JOIN, name("bob", 7)), (2, NOTE, name("bob", 5), name("bob", 6)),
                   (3, NOTE, name("cid", 1)), (4, NOTE, name("bob", 5), name("bob", 9)))
        self.placed(ann, ("joined", 1), None, [1, 2, 4])
        self.placed(ann, ("joined", 2), None, [3])
        self.placed(ann, ("joined", 3), None, [])

    def test_the_letter_asked_is_the_last_of_the_row(self):
        ann = line("ann", (1, JOIN, name("bob", 7)), (2, NOTE), (3, NOTE, name("bob", 8)), (4, NOTE))
        for nr, perhaps in [(1, [1]), (2, [1]), (3, [1, 3]), (4, [1, 3])]:
            self.placed(ann, ("joined", 1), None, perhaps, name("ann", nr))

    def test_below_the_sure_place(self):
        bob = line("bob", (0, JOIN))
        for first, second, third, sure, perhaps in [
                ([name("bob", 7)], [name("bob", 1)], [name("bob", 8)], 2, [1]),
                ([name("bob", 1)], [name("bob", 7)], [name("bob", 8)], 1, []),
                ([], [name("bob", 1), name("bob", 7)], [], 2, []),
                ([name("bob", 7)], [name("bob", 8)], [name("bob", 1)], 3, [1, 2]),
                ([], [name("bob", 7)], [], None, [2])]:
            ann = line("ann", (1, NOTE, *first), (2, NOTE, *second), (3, NOTE, *third))
            self.placed(bob + ann, ("joined", 1), sure, perhaps, name("ann", 3))

    def test_seen_ahead_of_a_gap_in_the_same_row(self):
        bob = [letter("bob", 8, 7, deed=JOIN), letter("bob", 9, 8, deed=GO)]
        ann = line("ann", (1, NOTE), (2, NOTE, name("bob", 8)), (3, NOTE, name("bob", 9)))
        self.placed(bob + ann, ("joined", 1), 2, [], name("ann", 3))
        self.placed(bob + ann, ("said", 1, "go"), 3, [2], name("ann", 3))

    def test_of_whose_house_and_deal_such_letters_can_be(self):
        for event, can in [
                (("joined", 1), [("bob", "sale")]), (("said", 2, "go"), [("cid", "sale")]), (("joined", 0), []),
                (("did", 0, 0, 0), [("cid", "sale"), ("dan", "sale")]),
                (("did", 0, 1, 1), [("bob", "sale"), ("cid", "sale")]),
                (("did", 1, 0, 0), [("dan", "rent"), ("ann", "rent")]),
                (("did", 1, 1, 2), [("eve", "rent"), ("ann", "rent")])]:
            for house in ["ann", "bob", "cid", "dan", "eve", "zed", "bell"]:
                for deal in ["sale", "rent", "lost"]:
                    if (house, deal) != ("ann", "sale"):
                        ann = line("ann", (1, NOTE), (2, NOTE, name(house, 3, deal)))
                        self.placed(ann, event, None, [2] if (house, deal) in can else [], name("ann", 2))

    def test_the_rows_own_house(self):
        # Its own letters in this deal are all there, so none of them is hidden; those in others may be.
        ann = line("ann", (1, NOTE), (2, ("do", 1, 0)), (3, NOTE, name("ann", 2, "rent")))
        self.placed(ann, ("did", 0, 1, 0), 2, [], name("ann", 3))
        self.placed(ann, ("did", 1, 1, 0), None, [3], name("ann", 3))
        self.placed(ann, ("joined", 0), None, [], name("ann", 3))

    def test_gaps_of_other_rows(self):
        pile = line("ann", (1, NOTE), (2, NOTE, name("cid", 1)))
        pile += [letter("cid", 1, 0, (name("bob", 5),)), letter("bob", 8, 7), letter("dan", 1, 0, (name("bob", 8),))]
        self.placed(pile, ("joined", 1), None, [], name("ann", 2))

    def test_whole_piles(self):
        pile = line("bob", (1, NOTE), (2, JOIN)) + line("ann", (1, NOTE, name("bob", 1)), (2, NOTE, name("bob", 2)))
        self.placed(pile, ("joined", 1), 2, [], name("ann", 2))
        self.placed(pile, ("said", 1, "go"), None, [], name("ann", 2))

    def test_rows_of_gots_that_go_round(self):
        pile = [letter("bob", 1, 2), letter("bob", 2, 1)] + line("ann", (1, NOTE, name("bob", 1)))
        self.placed(pile, ("joined", 1), None, [], name("ann", 1))

    def test_of_strangers_and_bell(self):
        for house in ["bell", "zed"]:
            pile = line(house, (1, NOTE), (2, NOTE, name("bob", 1)))
            self.placed(pile, ("joined", 1), None, [2], name(house, 2))

    def test_own_and_kept(self):
        pile = line("ann", (1, NOTE, name("bob", 1)))
        given = copy.deepcopy((TOWN, pile))
        told = places(TOWN, pile, name("ann", 1), ("joined", 1))
        self.assertIs(type(told), tuple)
        self.assertIs(type(told[1]), list)
        told[1].append(9)
        self.assertEqual(places(TOWN, pile, name("ann", 1), ("joined", 1)), (None, [1]))
        self.assertEqual((TOWN, pile), given)


class Begins(Asked):
    def begun(self, town, pile, of, told, c=0):
        self.asked(lambda order: begins(town, order, of, c), pile, told)

    def test_without_gaps(self):
        town = town_of(clause(conds=[("joined", 1)]), clause())
        bob = line("bob", (0, JOIN))
        ann = line("ann", (1, JOIN), (2, NOTE, name("bob", 1)), (3, NOTE))
        for nr, told in [(1, [None]), (2, [2]), (3, [2])]:
            self.begun(town, bob + ann, name("ann", nr), told)
            self.begun(town, bob + ann, name("ann", nr), [1], 1)
        self.begun(town, bob + ann, name("bob", 1), [None])

    def test_a_cond_that_may_be(self):
        town = town_of(clause(conds=[("joined", 1)]))
        ann = line("ann", (1, JOIN), (2, NOTE, name("bob", 5)), (3, NOTE), (4, NOTE, name("bob", 6)))
        for nr, told in [(1, [None]), (2, [2, None]), (3, [2, None]), (4, [2, 4, None])]:
            self.begun(town, ann, name("ann", nr), told)
        bob = [letter("bob", 6, deed=JOIN)]
        self.begun(town, bob + ann, name("ann", 4), [2, 4])
        ann[0] = letter("ann", 1, 0, (name("bob", 4),), deed=JOIN)
        self.begun(town, bob + ann, name("ann", 4), [1, 2, 4])

    def test_ahead_of_the_start(self):
        town = town_of(clause(conds=[("joined", 1)]))
        ann = line("ann", (1, NOTE, name("bob", 5)), (2, NOTE, name("bob", 6)), (3, JOIN), (4, NOTE, name("bob", 7)))
        self.begun(town, ann, name("ann", 2), [None])
        self.begun(town, ann, name("ann", 3), [3, None])
        self.begun(town, ann, name("ann", 4), [3, 4, None])

    def test_no_start(self):
        town = town_of(clause(conds=[("joined", 1)]))
        ann = line("ann", (1, NOTE, name("bob", 5)), (2, NOTE, name("cid", 6)))
        self.begun(town, ann, name("ann", 2), [None])
        for house in ["zed", "bell"]:
            pile = line(house, (1, JOIN, name("ann", 5)), (2, ("ready", 0), name("bob", 6)))
            self.begun(town, pile, name(house, 2), [None])

    def test_several_conds_by_one_gap(self):
        town = town_of(clause(conds=[("joined", 1), ("said", 1, "go")]))
        ann = line("ann", (1, JOIN), (2, NOTE, name("bob", 5)), (3, NOTE), (4, NOTE, name("bob", 6)))
        self.begun(town, ann, name("ann", 3), [2, None])
        self.begun(town, ann, name("ann", 4), [2, 4, None])

    def test_several_conds_by_several_gaps(self):
        town = town_of(clause(conds=[("joined", 1), ("said", 2, "go")]))
        ann = line("ann", (1, JOIN, name("bob", 5)), (2, NOTE, name("cid", 5)), (3, NOTE, name("bob", 6)), (4, NOTE))
        self.begun(town, ann, name("ann", 1), [None])
        self.begun(town, ann, name("ann", 2), [2, None])
        self.begun(town, ann, name("ann", 4), [2, 3, None])
        cid = line("cid", (0, GO))
        ann = line("ann", (1, JOIN, name("bob", 5)), (2, NOTE, name("cid", 5)), (3, NOTE, name("cid", 1)),
                   (4, NOTE, name("bob", 6)))
        self.begun(town, cid + ann, name("ann", 4), [2, 3, 4, None])
        bob = [letter("bob", 6, deed=JOIN)]
        self.begun(town, cid + bob + ann, name("ann", 4), [2, 3, 4])

    def test_a_sure_cond_bounds_from_below(self):
        town = town_of(clause(conds=[("joined", 1), ("said", 2, "go")]))
        cid = line("cid", (0, GO))
        ann = line("ann", (1, JOIN, name("bob", 5)), (2, NOTE, name("bob", 6)), (3, NOTE, name("cid", 1)), (4, NOTE))
        self.begun(town, cid + ann, name("ann", 4), [3, None])

    def test_a_cond_that_cannot_be(self):
        town = town_of(clause(conds=[("joined", 1), ("said", 2, "go")]))
        ann = line("ann", (1, JOIN, name("bob", 5)), (2, NOTE, name("bob", 6)))
        self.begun(town, ann, name("ann", 2), [None])

    def test_times_above_close(self):
        town = town_of(clause(conds=[("joined", 1)]), close=5)
        bob = [letter("bob", 9, deed=JOIN)]
        ann = line("ann", (1, JOIN), (6, NOTE, name("bob", 5)), (5, NOTE, name("bob", 6)), (7, NOTE, name("bob", 9)))
        self.begun(town, bob + ann, name("ann", 4), [3, None])
        self.begun(town, bob + ann, name("ann", 2), [None])
        ann[3] = letter("ann", 4, 3, (name("bob", 9),), time=5)
        ann[1] = letter("ann", 2, 1, (name("bob", 5),), time=5)
        self.begun(town, bob + ann, name("ann", 4), [2, 3, 4])

    def test_another_house(self):
        town = town_of(clause())
        cid = line("cid", (1, ("ready", 0)), (2, NOTE, name("ann", 5)), (3, NOTE, name("ann", 6)), (4, NOTE))
        self.begun(town, cid, name("cid", 1), [None])
        self.begun(town, cid, name("cid", 2), [2, None])
        self.begun(town, cid, name("cid", 4), [2, 3, None])
        ann = [letter("ann", 6, deed=("hand", 0, "cid"))]
        self.begun(town, ann + cid, name("cid", 4), [2, 3])
        cid = line("cid", (1, NOTE, name("ann", 5)), (2, NOTE, name("ann", 6)), (3, ("ready", 0)), (4, NOTE))
        self.begun(town, cid, name("cid", 2), [None])
        self.begun(town, cid, name("cid", 4), [3, None])
        self.begun(town, ann + cid, name("cid", 4), [3])

    def test_another_house_by_gaps_of_others(self):
        town = town_of(clause())
        cid = line("cid", (1, ("ready", 0)), (2, NOTE, name("bob", 5), name("dan", 5), name("ann", 5, "rent")))
        self.begun(town, cid, name("cid", 2), [None])

    def test_ready_is_never_hidden(self):
        town = town_of(clause())
        cid = line("cid", (1, JOIN, name("ann", 5)), (2, NOTE, name("ann", 6), name("cid", 3, "rent")))
        self.begun(town, cid, name("cid", 2), [None])

    def test_another_house_by_hand_and_conds(self):
        town = town_of(clause(conds=[("joined", 1)]))
        cid = line("cid", (1, ("ready", 0), name("bob", 5)), (2, NOTE, name("ann", 5)), (3, NOTE, name("bob", 6)))
        self.begun(town, cid, name("cid", 1), [None])
        self.begun(town, cid, name("cid", 3), [2, 3, None])

    def test_events_of_other_deals(self):
        town = town_of(clause(conds=[("did", 1, 1, 2)]), others={"rent": RENT})
        ann = line("ann", (1, JOIN, name("dan", 5, "rent")), (2, NOTE, name("eve", 5, "rent")),
                   (3, NOTE, name("ann", 5, "rent")), (4, NOTE, name("eve", 6)))
        self.begun(town, ann, name("ann", 1), [None])
        self.begun(town, ann, name("ann", 4), [2, 3, None])

    def test_a_clause_that_the_deal_has_not(self):
        for c in (1, 11, -1):
            self.begun(town_of(clause()), line("ann", (1, JOIN, name("bob", 5))), name("ann", 1), [None], c)

    def test_own_and_kept(self):
        town = town_of(clause(conds=[("joined", 1)]))
        pile = line("ann", (1, JOIN), (2, NOTE, name("bob", 5)))
        given = copy.deepcopy((town, pile))
        told = begins(town, pile, name("ann", 2), 0)
        self.assertIs(type(told), list)
        told.clear()
        self.assertEqual(begins(town, pile, name("ann", 1), 0), [None])
        self.assertEqual(begins(town, pile, name("ann", 2), 0), [2, None])
        self.assertEqual((town, pile), given)

    def test_gaps_filled_in_all_ways(self):
        several = 0
        for seed in range(150):
            maker = PileMaker(seed)
            town = maker.town(1)
            pile = gappy(maker, town, maker.chance.randint(1, 4))
            if bits(town, pile) > 6:
                continue
            asked = [(own, c) for own in named(pile) if Plain(town, pile, own).is_read
                     for c in range(len(town[1][own[1]][3]))]
            found = {pair: set() for pair in asked}
            for whole in fillings(town, pile):
                for own, c in asked:
                    found[(own, c)].add(Plain(town, whole, own).begin(c))
            for own, c in asked:
                told = sorted(found[(own, c)] - {None}) + [None] * (None in found[(own, c)])
                self.assertEqual(begins(town, pile, own, c), told, (seed, own, c))
                several += len(told) > 1
        self.assertGreater(several, 20)


if __name__ == "__main__":
    unittest.main()
