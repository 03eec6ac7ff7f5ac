import copy
import unittest

from holdword.deals import is_town
from holdword.piles import is_pile, is_whole
from holdword.reading import claims_of, read
from plain import PileMaker, slow_read
from samples import GO, JOIN, NOTE, clause, letter, line, name, town_of

ANN = name("ann", 1)
BOB = name("bob", 1)
CID = name("cid", 1)


class Reads(unittest.TestCase):
    def said(self, town, pile, of, claims):
        """The claims on the letter of a name are just these, in whatever order the pile is."""
        self.assertTrue(is_town(town))
        self.assertTrue(is_pile(pile) and is_whole(pile))
        for order in [pile, pile[::-1], pile + pile]:
            self.assertEqual(claims_of(town, order, of), claims)

    def held(self, town, pile, of, due, c=0):
        self.said(town, pile, of, [("held", of, c, due)])


class Starts(Reads):
    """Times of unlike places are unlike, so the due tells the place of the begin."""

    def test_the_debtors_house_by_its_first_join(self):
        town = town_of(clause(within=50))
        pile = line("ann", (1, NOTE), (2, JOIN), (3, NOTE), (4, JOIN), (5, NOTE))
        self.said(town, pile, ANN, [])
        for nr in (2, 3, 5):
            self.held(town, pile, name("ann", nr), 52)

    def test_the_debtors_house_without_a_join(self):
        town = town_of(clause())
        self.said(town, line("ann", (1, GO), (2, NOTE)), name("ann", 2), [])
        pile = line("bob", (1, JOIN)) + line("ann", (2, NOTE, BOB))
        self.said(town, pile, ANN, [])
        pile = line("ann", (1, JOIN), deal="rent") + line("ann", (2, NOTE, name("ann", 1, "rent")))
        self.said(town, pile, ANN, [])

    def test_ready_alone_does_not_start_the_debtors_house(self):
        town = town_of(clause())
        self.said(town, line("ann", (1, NOTE), (2, NOTE)), name("ann", 2), [])
        pile = line("ann", (1, ("ready", 0)), (2, ("hand", 0, "ann")), (3, NOTE))
        self.said(town, pile, name("ann", 3), [])

    def test_another_house_by_ready_and_hand(self):
        town = town_of(clause(within=50))
        ann = line("ann", (0, JOIN), (0, ("hand", 0, "cid")))
        ready = line("cid", (1, NOTE), (2, ("ready", 0)), (3, NOTE, name("ann", 2)), (4, NOTE))
        self.said(town, ann + ready, name("cid", 2), [])
        self.held(town, ann + ready, name("cid", 3), 53)
        self.held(town, ann + ready, name("cid", 4), 53)
        handed = line("cid", (1, NOTE, name("ann", 2)), (2, NOTE), (3, ("ready", 0)), (4, NOTE))
        self.said(town, ann + handed, name("cid", 2), [])
        self.held(town, ann + handed, name("cid", 3), 53)
        both = line("cid", (1, NOTE), (2, ("ready", 0), name("ann", 2)), (3, ("ready", 0), name("ann", 2)), (4, NOTE))
        self.held(town, ann + both, name("cid", 2), 52)
        self.held(town, ann + both, name("cid", 4), 52)

    def test_another_house_without_ready_or_hand(self):
        town = town_of(clause(), clause(0, 1))
        ann = line("ann", (0, JOIN), (0, ("hand", 0, "cid")))
        for steps in [[(1, NOTE, name("ann", 2))], [(1, ("ready", 0))], [(1, JOIN), (2, NOTE, name("ann", 2))],
                      [(1, JOIN), (2, ("ready", 0))], [(1, ("ready", 1)), (2, NOTE, name("ann", 2))],
                      [(1, ("ready", 0)), (2, NOTE, name("ann", 1))]]:
            self.said(town, ann + line("cid", *steps), name("cid", len(steps)), [])

    def test_a_hand_of_another_house_clause_or_deal_or_to_another_house(self):
        town = town_of(clause(), clause(), others={"rent": town_of(clause())[1]["sale"]})
        for house, deal, deed in [("dan", "sale", ("hand", 0, "cid")), ("bob", "sale", ("hand", 0, "cid")),
                                  ("ann", "sale", ("hand", 1, "cid")), ("ann", "rent", ("hand", 0, "cid")),
                                  ("ann", "sale", ("hand", 0, "dan")), ("ann", "sale", ("ready", 0))]:
            pile = line(house, (0, JOIN), (0, deed), deal=deal)
            pile += line("cid", (1, ("ready", 0)), (2, NOTE, name(house, 2, deal)))
            self.said(town, pile, name("cid", 2), [])

    def test_an_ill_hand_starts_too(self):
        town = town_of(clause(within=50))
        pile = line("ann", (0, ("hand", 0, "cid")))
        self.said(town, pile, ANN, [("ill", ANN)])
        pile += line("cid", (1, ("ready", 0)), (2, NOTE, ANN))
        self.held(town, pile, name("cid", 2), 52)
        pile = line("ann", (0, ("hand", 0, "bob"))) + line("bob", (1, ("ready", 0), ANN), (2, NOTE))
        self.said(town, pile, BOB, [("held", BOB, 0, 51), ("ill", BOB)])
        self.held(town, pile, name("bob", 2), 51)

    def test_strangers_never_start(self):
        town = town_of(clause())
        for house in ["eve", "bell"]:
            pile = line("ann", (0, JOIN), (1, NOTE))
            if house != "bell":
                pile = line("ann", (0, JOIN), (1, ("hand", 0, house)))
            pile += line(house, (1, JOIN), (2, ("ready", 0), name("ann", 2)), (3, NOTE))
            self.said(town, pile, name(house, 3), [])


class Begins(Reads):
    def test_no_conds(self):
        self.held(town_of(clause(within=5)), line("ann", (7, JOIN)), ANN, 12)

    def test_each_sort_of_cond(self):
        rent = (("dan", "eve"), (), 9, (clause(0, 1), clause(1, 0, 3)))
        for event, house, deal, deed in [
                (("joined", 1), "bob", "sale", JOIN), (("said", 2, "go"), "cid", "sale", GO),
                (("did", 0, 1, 1), "cid", "sale", ("do", 1, 1)), (("did", 0, 1, 1), "bob", "sale", ("do", 1, 1)),
                (("did", 1, 1, 2), "eve", "rent", ("do", 1, 2))]:
            town = town_of(clause(conds=[event], within=50), clause(2, 3, 2, conds=[("joined", 3)]), others={"rent": rent})
            got = name(house, 2, deal)
            theirs = line(house, (0, NOTE), (0, deed), (0, NOTE), deal=deal)
            pile = theirs + line("ann", (1, JOIN), (2, NOTE, name(house, 1, deal)), (3, NOTE, got), (4, NOTE))
            for nr in (1, 2):
                self.said(town, pile, name("ann", nr), [])
            for nr in (3, 4):
                self.held(town, pile, name("ann", nr), 53)
            # Seen by the row of a later letter, and ahead of the join.
            pile = theirs + line("ann", (1, NOTE, name(house, 3, deal)), (2, JOIN))
            self.held(town, pile, name("ann", 2), 52)

    def test_conds_by_the_row_itself(self):
        town = town_of(clause(conds=[("said", 0, "go"), ("did", 0, 1, 0), ("joined", 0)], within=50),
                       clause(3, 2, conds=[("said", 1, "no")]))
        pile = line("ann", (1, JOIN), (2, ("do", 1, 0)), (3, NOTE), (4, GO), (5, NOTE))
        self.said(town, pile, name("ann", 3), [])
        self.held(town, pile, name("ann", 4), 54)
        self.held(town, pile, name("ann", 5), 54)

    def test_the_greatest_of_several(self):
        town = town_of(clause(conds=[("joined", 1), ("said", 2, "go"), ("said", 2, "no")], within=50))
        bob = line("bob", (0, JOIN))
        cid = line("cid", (0, GO), (0, ("say", "no")))
        gots = {"bob": BOB, "go": CID, "no": name("cid", 2)}
        for order in [["bob", "go", "no"], ["no", "bob"], ["go", "no", "bob"], ["bob", "no"]]:
            steps = [(3 * at, NOTE, gots[word]) for at, word in enumerate(order, start=1)]
            pile = bob + cid + line("ann", (1, JOIN), *steps, (90, NOTE))
            for nr in range(1, len(order) + 1):
                self.said(town, pile, name("ann", nr), [])
            self.held(town, pile, name("ann", len(order) + 1), 50 + 3 * len(order))
        pile = bob + cid + line("ann", (1, NOTE, BOB), (2, NOTE, name("cid", 2)), (3, NOTE), (4, JOIN))
        self.held(town, pile, name("ann", 4), 54)

    def test_some_are_not_enough(self):
        town = town_of(clause(conds=[("joined", 1), ("said", 2, "go")]))
        bob, cid = line("bob", (0, JOIN)), line("cid", (0, GO))
        for own in [line("ann", (1, JOIN, BOB), (2, NOTE)), line("ann", (1, JOIN, CID), (2, NOTE)),
                    line("ann", (1, NOTE, BOB, CID), (2, NOTE)), line("ann", (1, JOIN), (2, NOTE))]:
            self.said(town, bob + cid + own, name("ann", 2), [])
        self.held(town, bob + cid + line("ann", (1, JOIN, BOB, CID)), ANN, 6)

    def test_gots_of_gots_are_not_gone_into(self):
        town = town_of(clause(conds=[("joined", 1)]))
        pile = line("bob", (0, JOIN)) + line("cid", (0, NOTE, BOB)) + line("ann", (1, JOIN, CID))
        self.said(town, pile, ANN, [])

    def test_for_another_house(self):
        town = town_of(clause(conds=[("joined", 1)], within=50))
        pile = line("ann", (0, JOIN), (0, ("hand", 0, "cid"))) + line("bob", (0, JOIN))
        cid = line("cid", (1, ("ready", 0)), (2, NOTE, name("ann", 2)), (3, NOTE, BOB), (4, NOTE))
        self.said(town, pile + cid, name("cid", 2), [])
        self.held(town, pile + cid, name("cid", 3), 53)
        cid = line("cid", (1, NOTE, BOB), (2, NOTE), (3, ("ready", 0)), (4, NOTE, name("ann", 2)))
        self.said(town, pile + cid, name("cid", 3), [])
        self.held(town, pile + cid, name("cid", 4), 54)

    def test_close(self):
        for close, begun in [(7, True), (6, False)]:
            town = town_of(clause(conds=[("said", 0, "go")]), close=close)
            pile = line("ann", (1, JOIN), (7, GO), (8, NOTE))
            for nr in (2, 3):
                self.said(town, pile, name("ann", nr), [("held", name("ann", nr), 0, 12)] if begun else [])

    def test_close_is_held_against_the_begins_time_alone(self):
        town = town_of(clause(conds=[("said", 0, "go")]), close=5)
        pile = line("ann", (9, JOIN), (4, GO), (6, NOTE))
        self.held(town, pile, name("ann", 3), 9)
        # The first go is above close, and the second one is not the first.
        pile = line("ann", (1, JOIN), (6, GO), (4, GO), (4, NOTE))
        self.said(town, pile, name("ann", 4), [])

    def test_each_clause_by_itself(self):
        town = town_of(clause(within=3), clause(0, 2, within=7, conds=[("said", 0, "go")]), clause(1, 0), clause(0, 3, within=1))
        pile = line("ann", (1, JOIN), (2, NOTE), (3, GO))
        self.said(town, pile, ANN, [("held", ANN, 0, 4), ("held", ANN, 3, 2)])
        own = name("ann", 3)
        self.said(town, pile, own, [("held", own, 0, 4), ("held", own, 1, 10), ("late", own, 3)])


class Parts(Reads):
    def doing(self, *steps, parts=2, within=5):
        """The clause has begun at time 10; what is said by the last of ann's letters."""
        town = town_of(clause(parts=parts, within=within))
        pile = line("ann", (10, JOIN), *steps)
        told = claims_of(town, pile, name("ann", len(pile)))
        return [claim[:1] + claim[2:] for claim in told]

    def test_some_and_all(self):
        self.assertEqual(self.doing((11, NOTE)), [("held", 0, 15)])
        self.assertEqual(self.doing((11, ("do", 0, 0))), [("held", 0, 15)])
        self.assertEqual(self.doing((11, ("do", 0, 1))), [("held", 0, 15)])
        self.assertEqual(self.doing((11, ("do", 0, 0)), (12, ("do", 0, 1))), [("kept", 0)])
        self.assertEqual(self.doing((11, ("do", 0, 1)), (11, ("do", 0, 0))), [("kept", 0)])
        self.assertEqual(self.doing((11, ("do", 0, 0)), parts=1), [("kept", 0)])

    def test_each_of_nine(self):
        for left in range(9):
            steps = [(11, ("do", 0, p)) for p in range(9) if p != left]
            self.assertEqual(self.doing(*steps, parts=9), [("held", 0, 15)])
            self.assertEqual(self.doing(*steps, (11, ("do", 0, left)), parts=9), [("kept", 0)])

    def test_twice_is_no_other_part(self):
        self.assertEqual(self.doing((11, ("do", 0, 0)), (12, ("do", 0, 0))), [("held", 0, 15)])
        self.assertEqual(self.doing((11, ("do", 0, 0)), (12, ("do", 0, 0)), (13, ("do", 0, 1))), [("kept", 0)])

    def test_kept_stays(self):
        steps = [(11, ("do", 0, 0)), (12, ("do", 0, 1))]
        self.assertEqual(self.doing(*steps, (15, NOTE)), [("kept", 0)])
        self.assertEqual(self.doing(*steps, (16, NOTE)), [("kept", 0)])
        self.assertEqual(self.doing(*steps, (99, ("do", 0, 0))), [("kept", 0)])

    def test_at_due_and_above_it(self):
        self.assertEqual(self.doing((15, ("do", 0, 0)), (15, ("do", 0, 1))), [("kept", 0)])
        self.assertEqual(self.doing((15, ("do", 0, 0)), (16, ("do", 0, 1))), [("late", 0)])
        self.assertEqual(self.doing((16, ("do", 0, 0)), (15, ("do", 0, 1))), [("held", 0, 15)])
        self.assertEqual(self.doing((16, ("do", 0, 0)), (15, ("do", 0, 1)), (15, ("do", 0, 0))), [("kept", 0)])

    def test_times_below_the_begins(self):
        self.assertEqual(self.doing((3, ("do", 0, 0)), (0, ("do", 0, 1))), [("kept", 0)])

    def test_ahead_of_the_begin_and_at_it(self):
        town = town_of(clause(parts=1, conds=[("said", 1, "go")], within=5))
        bob = line("bob", (0, GO))
        own = name("ann", 3)
        pile = bob + line("ann", (1, JOIN), (1, ("do", 0, 0)), (1, NOTE, BOB))
        self.said(town, pile, own, [("held", own, 0, 6)])
        self.said(town, pile, name("ann", 2), [("ill", name("ann", 2))])
        pile = bob + line("ann", (1, JOIN), (1, ("do", 0, 0), BOB), (1, NOTE))
        self.said(town, pile, name("ann", 2), [("kept", name("ann", 2), 0)])
        self.said(town, pile, own, [("kept", own, 0)])

    def test_by_letters_of_others(self):
        town = town_of(clause(), clause(0, 2))
        pile = line("cid", (2, ("do", 0, 0))) + line("ann", (1, JOIN), (2, ("do", 1, 0), CID))
        own = name("ann", 2)
        self.said(town, pile, own, [("held", own, 0, 6), ("kept", own, 1)])

    def test_parts_that_the_clause_has_not(self):
        self.assertEqual(self.doing((11, ("do", 0, 1)), (11, ("do", 0, 0)), (11, ("do", 0, 2)), parts=2),
                         [("ill",), ("kept", 0)])
        self.assertEqual(self.doing((11, ("do", 0, 1)), parts=1), [("held", 0, 15), ("ill",)])

    def test_for_another_house(self):
        town = town_of(clause(parts=2))
        pile = line("ann", (0, JOIN), (0, ("do", 0, 1)), (0, ("hand", 0, "cid")))
        pile += line("cid", (1, ("ready", 0)), (2, ("do", 0, 0), name("ann", 3)), (3, ("do", 0, 1)))
        self.said(town, pile, name("cid", 2), [("held", name("cid", 2), 0, 7)])
        self.said(town, pile, name("cid", 3), [("kept", name("cid", 3), 0)])

    def test_kept_where_ended(self):
        town = town_of(clause(), clause(0, 1))
        bob = line("bob", (0, ("free", 0)))
        own = name("ann", 3)
        for pile in [bob + line("ann", (1, JOIN), (2, ("do", 0, 0), BOB), (3, NOTE)),
                     bob + line("ann", (1, JOIN, BOB), (2, ("do", 0, 0)), (3, NOTE)),
                     bob + line("ann", (1, JOIN), (2, ("do", 0, 0)), (3, NOTE, BOB))]:
            self.said(town, pile, own, [("held", own, 1, 6), ("kept", own, 0)])
        pile = line("ann", (1, JOIN), (2, ("hand", 0, "cid")), (3, ("do", 0, 0)))
        self.said(town, pile, own, [("held", own, 1, 6), ("ill", own), ("kept", own, 0)])


class Ends(Reads):
    def test_free(self):
        town = town_of(clause(within=50))
        pile = line("bob", (0, NOTE), (0, ("free", 0)), (0, NOTE))
        pile += line("ann", (1, JOIN), (2, NOTE, name("bob", 1)), (3, NOTE, name("bob", 3)), (4, NOTE))
        self.held(town, pile, name("ann", 2), 51)
        self.said(town, pile, name("ann", 3), [])
        self.said(town, pile, name("ann", 4), [])

    def test_free_ahead_of_the_begin(self):
        town = town_of(clause(conds=[("said", 0, "go")]))
        pile = line("bob", (0, ("free", 0))) + line("ann", (1, NOTE, BOB), (2, JOIN), (3, GO), (99, NOTE))
        for nr in (1, 2, 3, 4):
            self.said(town, pile, name("ann", nr), [])

    def test_free_of_others(self):
        town = town_of(clause(within=50), clause(2, 3), others={"rent": town_of(clause())[1]["sale"]})
        for house, deal, deed in [("cid", "sale", ("free", 0)), ("bob", "rent", ("free", 0)), ("bob", "sale", ("free", 1)),
                                  ("eve", "sale", ("free", 0)), ("bob", "sale", ("quit", 0))]:
            pile = line(house, (0, deed), deal=deal) + line("ann", (1, JOIN, name(house, 1, deal)))
            self.held(town, pile, ANN, 51)
        own = name("ann", 2)
        self.said(town, line("ann", (1, JOIN), (2, ("free", 0))), own, [("held", own, 0, 51), ("ill", own)])

    def test_free_of_the_creditors_own(self):
        town = town_of(clause(within=50))
        pile = line("ann", (0, ("hand", 0, "bob"))) + line("bob", (1, ("ready", 0)), (2, NOTE, ANN), (3, ("free", 0)))
        self.held(town, pile, name("bob", 2), 52)
        self.said(town, pile, name("bob", 3), [])

    def test_free_for_another_house(self):
        town = town_of(clause(within=50))
        pile = line("ann", (0, ("hand", 0, "cid"))) + line("bob", (0, ("free", 0)))
        pile += line("cid", (1, ("ready", 0)), (2, NOTE, ANN), (3, NOTE, BOB))
        self.held(town, pile, name("cid", 2), 52)
        self.said(town, pile, name("cid", 3), [])

    def test_hand_of_the_debtors_house(self):
        town = town_of(clause(within=50))
        pile = line("cid", (0, ("ready", 0))) + line("ann", (1, JOIN), (2, ("hand", 0, "cid"), CID), (3, NOTE), (99, NOTE))
        self.held(town, pile, ANN, 51)
        for nr in (2, 3, 4):
            self.said(town, pile, name("ann", nr), [])

    def test_an_ill_hand(self):
        town = town_of(clause(within=50))
        own = name("ann", 2)
        for to in ["cid", "ann", "bob", "eve"]:
            pile = line("ann", (1, JOIN), (2, ("hand", 0, to)), (3, NOTE))
            self.said(town, pile, own, [("ill", own)])
            self.said(town, pile, name("ann", 3), [])
        pile = line("ann", (1, ("hand", 0, "cid")), (2, JOIN), (99, NOTE))
        self.said(town, pile, own, [])
        self.said(town, pile, name("ann", 3), [])

    def test_hands_of_others(self):
        town = town_of(clause(within=50), clause(2, 3))
        pile = line("ann", (1, JOIN), (2, ("hand", 1, "bob")))
        own = name("ann", 2)
        self.said(town, pile, own, [("held", own, 0, 51), ("ill", own)])
        pile = line("ann", (0, ("hand", 0, "cid"))) + line("cid", (1, ("ready", 0), ANN), (2, ("hand", 0, "dan")), (3, NOTE))
        self.held(town, pile, name("cid", 3), 51)
        pile = line("dan", (0, ("hand", 0, "cid"))) + line("ann", (1, JOIN, name("dan", 1)))
        self.held(town, pile, ANN, 51)


class Quits(Reads):
    """Clause 0 of ann's begins by her join, clause 1 by her go; leave after 4 unless bob said no."""

    TOWN = town_of(clause(within=50, leave=(("said", 1, "no"), 4)), others={})
    NO = line("bob", (0, NOTE), (0, ("say", "no")), (0, NOTE))

    def test_good(self):
        pile = line("ann", (1, JOIN), (5, ("quit", 0)), (60, NOTE))
        self.held(self.TOWN, pile, ANN, 51)
        self.said(self.TOWN, pile, name("ann", 2), [])
        self.said(self.TOWN, pile, name("ann", 3), [])

    def test_below_the_wait_and_at_it(self):
        for time, good in [(4, False), (5, True), (6, True), (51, True), (60, True)]:
            pile = line("ann", (1, JOIN), (time, ("quit", 0)), (70, NOTE))
            own = name("ann", 2)
            self.said(self.TOWN, pile, own, [] if good else [("held", own, 0, 51), ("ill", own)])
            own = name("ann", 3)
            self.said(self.TOWN, pile, own, [] if good else [("late", own, 0)])

    def test_without_leave(self):
        pile = line("ann", (1, JOIN), (50, ("quit", 0)), (51, NOTE))
        town = town_of(clause(within=50))
        own = name("ann", 2)
        self.said(town, pile, own, [("held", own, 0, 51), ("ill", own)])
        self.held(town, pile, name("ann", 3), 51)

    def test_the_leave_of_another_clause(self):
        town = town_of(clause(within=50), clause(0, 2, within=40, leave=(("said", 1, "no"), 1)))
        pile = line("ann", (1, JOIN), (9, ("quit", 1)), (10, ("quit", 0)))
        self.held(town, pile, name("ann", 2), 51)
        own = name("ann", 3)
        self.said(town, pile, own, [("held", own, 0, 51), ("ill", own)])

    def test_ahead_of_the_begin(self):
        town = town_of(clause(within=50, conds=[("said", 0, "go")], leave=(("said", 1, "no"), 4)))
        pile = line("ann", (1, JOIN), (9, ("quit", 0)), (2, GO), (3, NOTE), (6, ("quit", 0)))
        self.said(town, pile, name("ann", 2), [("ill", name("ann", 2))])
        self.held(town, pile, name("ann", 4), 52)
        self.said(town, pile, name("ann", 5), [])

    def test_at_the_begins_place(self):
        town = town_of(clause(within=50, conds=[("joined", 1)], leave=(("said", 1, "no"), 1)))
        pile = line("bob", (0, JOIN)) + line("ann", (1, JOIN), (9, ("quit", 0), BOB), (10, NOTE))
        own = name("ann", 2)
        self.said(town, pile, own, [("held", own, 0, 59), ("ill", own)])
        self.held(town, pile, name("ann", 3), 59)

    def test_the_event_seen_by_its_place(self):
        own = name("ann", 2)
        for got, good in [(1, True), (2, False), (3, False)]:
            pile = self.NO + line("ann", (1, JOIN), (5, ("quit", 0), name("bob", got)), (6, NOTE))
            self.said(self.TOWN, pile, own, [] if good else [("held", own, 0, 51), ("ill", own)])
            pile = self.NO + line("ann", (1, JOIN, name("bob", got)), (5, ("quit", 0)), (6, NOTE))
            self.said(self.TOWN, pile, own, [] if good else [("held", own, 0, 51), ("ill", own)])

    def test_the_event_seen_only_behind_it(self):
        pile = self.NO + line("ann", (1, JOIN), (5, ("quit", 0)), (6, NOTE, name("bob", 2)), (7, ("quit", 0)))
        for nr in (2, 3):
            self.said(self.TOWN, pile, name("ann", nr), [])
        self.said(self.TOWN, pile, name("ann", 4), [("ill", name("ann", 4))])

    def test_events_of_others(self):
        for house, deed in [("bob", GO), ("cid", ("say", "no")), ("bob", JOIN)]:
            pile = line(house, (0, deed)) + line("ann", (1, JOIN, name(house, 1)), (5, ("quit", 0)))
            self.said(self.TOWN, pile, name("ann", 2), [])

    def test_an_event_of_the_row_itself(self):
        town = town_of(clause(within=50, leave=(("said", 0, "no"), 4)))
        pile = line("ann", (1, JOIN), (5, ("quit", 0)), (6, ("say", "no")))
        self.said(town, pile, name("ann", 3), [])
        pile = line("ann", (1, JOIN), (5, ("say", "no")), (6, ("quit", 0)))
        own = name("ann", 3)
        self.said(town, pile, own, [("held", own, 0, 51), ("ill", own)])

    def test_a_good_one_behind_one_that_is_not(self):
        pile = line("ann", (1, JOIN), (2, ("quit", 0)), (3, NOTE), (8, ("quit", 0)), (2, NOTE))
        self.held(self.TOWN, pile, name("ann", 3), 51)
        self.said(self.TOWN, pile, name("ann", 4), [])
        self.said(self.TOWN, pile, name("ann", 5), [])

    def test_for_another_house(self):
        pile = line("ann", (0, ("hand", 0, "cid"))) + line("cid", (1, ("ready", 0), ANN), (4, ("quit", 0)), (5, ("quit", 0)))
        own = name("cid", 2)
        self.said(self.TOWN, pile, own, [("held", own, 0, 51), ("ill", own)])
        self.said(self.TOWN, pile, name("cid", 3), [])

    def test_kept_where_quitted(self):
        pile = line("ann", (1, JOIN), (5, ("quit", 0)), (6, ("do", 0, 0)))
        self.said(self.TOWN, pile, name("ann", 3), [("kept", name("ann", 3), 0)])


class Held(Reads):
    def test_due_at_the_letters_time_and_below_it(self):
        town = town_of(clause(within=5))
        for time, word in [(0, "held"), (1, "held"), (6, "held"), (7, "late"), (99, "late")]:
            own = name("ann", 2)
            claim = ("held", own, 0, 6) if word == "held" else ("late", own, 0)
            self.said(town, line("ann", (1, JOIN), (time, NOTE)), own, [claim])

    def test_late_is_of_the_letter_asked(self):
        town = town_of(clause(within=5))
        pile = line("ann", (1, JOIN), (7, NOTE), (6, NOTE))
        self.said(town, pile, name("ann", 2), [("late", name("ann", 2), 0)])
        self.held(town, pile, name("ann", 3), 6)

    def test_a_house_that_is_none_of_the_deals(self):
        town = town_of(clause())
        for house in ["eve", "bell"]:
            self.said(town, line(house, (1, NOTE), (2, GO), (3, NOTE)), name(house, 3), [])

    def test_a_row_without_its_beginning(self):
        town = town_of(clause())
        for pile in [[letter("ann", 1, 1, deed=JOIN), letter("ann", 2, 1, deed=("do", 0, 0))],
                     [letter("ann", 1, 2, deed=JOIN), letter("ann", 2, 1, deed=JOIN)],
                     [letter("ann", 1, 3, deed=JOIN), letter("ann", 2, 1, deed=("free", 0)), letter("ann", 3, 1)]]:
            for one in pile:
                self.said(town, pile, one[:3], [])

    def test_a_deal_that_is_none_of_the_towns(self):
        pile = line("ann", (1, JOIN), (2, JOIN), (3, ("do", 0, 0)), (4, ("free", 11)), deal="lost")
        for town in [town_of(clause()), (0, {})]:
            for nr in (1, 2, 3, 4):
                self.said(town, pile, name("ann", nr, "lost"), [])


class Ill(Reads):
    """Clause 0: ann to bob, 2 parts; clause 1: bob to cid, if dan said go."""

    TOWN = town_of(clause(0, 1, 2, within=50), clause(1, 2, 1, conds=[("said", 3, "go")]))

    def ills(self, pile, of, ill, town=None):
        self.assertTrue(is_pile(pile) and is_whole(pile))
        told = [claim for claim in claims_of(town or self.TOWN, pile, of) if claim[0] == "ill"]
        self.assertEqual(told, [("ill", of)] if ill else [])

    def test_join(self):
        for house, ill in [("ann", False), ("dan", False), ("eve", True), ("bell", True)]:
            self.ills(line(house, (0, JOIN)), name(house, 1), ill)
            self.ills(line(house, (0, NOTE), (0, JOIN)), name(house, 2), ill)
        pile = line("ann", (0, JOIN), (0, NOTE), (0, JOIN), (0, NOTE))
        for nr, ill in [(1, False), (2, False), (3, True), (4, False)]:
            self.ills(pile, name("ann", nr), ill)
        pile = line("bob", (0, JOIN)) + line("ann", (0, JOIN), deal="rent")
        pile += line("ann", (0, NOTE, BOB, name("ann", 1, "rent")), (0, JOIN))
        self.ills(pile, name("ann", 2), False)

    def test_say_and_note(self):
        for house in ["ann", "eve", "bell"]:
            for deed in [GO, NOTE, ("say", "anything")]:
                self.ills(line(house, (0, deed), (0, deed)), name(house, 2), False)

    def test_a_clause_that_the_deal_has_not(self):
        for deed in [("do", 2, 0), ("free", 2), ("ready", 2), ("hand", 2, "cid"), ("quit", 2), ("do", 11, 8), ("free", 11)]:
            for house in ["ann", "bob", "cid", "eve"]:
                pile = line("cid", (0, ("ready", 2))) if house == "ann" else []
                pile += line(house, (0, JOIN), (0, deed, *[CID] * len(pile)))
                self.ills(pile, name(house, 2), True)

    def test_do(self):
        for deed, ill in [(("do", 0, 0), False), (("do", 0, 1), False), (("do", 0, 2), True), (("do", 0, 8), True),
                          (("do", 1, 0), True)]:
            self.ills(line("ann", (0, JOIN), (0, deed)), name("ann", 2), ill)
        self.ills(line("ann", (0, ("do", 0, 0))), ANN, True)
        self.ills(line("ann", (0, NOTE), (0, ("do", 0, 0)), (0, JOIN)), name("ann", 2), True)
        self.ills(line("cid", (0, JOIN), (0, ("do", 0, 0))), name("cid", 2), True)
        self.ills(line("bob", (0, JOIN), (0, ("do", 0, 0))), name("bob", 2), True)
        self.ills(line("eve", (0, JOIN), (0, ("do", 0, 0))), name("eve", 2), True)

    def test_do_by_conds(self):
        dan = line("dan", (0, GO))
        self.ills(dan + line("bob", (0, JOIN), (0, ("do", 1, 0), name("dan", 1))), name("bob", 2), False)
        self.ills(dan + line("bob", (0, JOIN, name("dan", 1)), (0, ("do", 1, 0))), name("bob", 2), False)
        self.ills(dan + line("bob", (0, JOIN), (0, ("do", 1, 0)), (0, NOTE, name("dan", 1))), name("bob", 2), True)
        town = town_of(clause(), close=4)
        self.ills(line("ann", (4, JOIN), (9, ("do", 0, 0))), name("ann", 2), False, town)
        self.ills(line("ann", (5, JOIN), (9, ("do", 0, 0))), name("ann", 2), True, town)

    def test_do_behind_due_kept_or_freed(self):
        self.ills(line("ann", (0, JOIN), (51, ("do", 0, 0))), name("ann", 2), False)
        pile = line("ann", (0, JOIN), (1, ("do", 0, 0)), (1, ("do", 0, 1)), (1, ("do", 0, 0)))
        self.ills(pile, name("ann", 4), False)
        pile = line("bob", (0, ("free", 0))) + line("ann", (0, JOIN), (1, ("do", 0, 0), BOB))
        self.ills(pile, name("ann", 2), False)
        town = town_of(clause(within=50, leave=(("said", 1, "no"), 1)))
        self.ills(line("ann", (0, JOIN), (1, ("quit", 0)), (2, ("do", 0, 0))), name("ann", 3), False, town)

    def test_do_behind_a_hand(self):
        for to in ["cid", "bob", "eve"]:
            pile = line("ann", (0, JOIN), (0, ("do", 0, 0)), (0, ("hand", 0, to)), (0, ("do", 0, 1)))
            self.ills(pile, name("ann", 2), False)
            self.ills(pile, name("ann", 4), True)
        self.ills(line("ann", (0, JOIN), (0, ("hand", 1, "cid")), (0, ("do", 0, 1))), name("ann", 3), False)
        pile = line("ann", (0, ("hand", 0, "cid"))) + line("cid", (0, ("ready", 0)), (0, ("do", 0, 0), ANN))
        self.ills(pile, name("cid", 2), False)
        pile += [letter("cid", 3, 2, deed=("hand", 0, "dan")), letter("cid", 4, 3, deed=("do", 0, 1))]
        self.ills(pile, name("cid", 4), True)

    def test_free(self):
        for house, c, ill in [("bob", 0, False), ("cid", 1, False), ("ann", 0, True), ("cid", 0, True), ("bob", 1, True),
                              ("eve", 0, True), ("bell", 0, True)]:
            self.ills(line(house, (0, ("free", c)), (0, ("free", c))), name(house, 1), ill)
            self.ills(line(house, (0, ("free", c)), (0, ("free", c))), name(house, 2), ill)

    def test_ready(self):
        for house, c, ill in [("cid", 0, False), ("dan", 0, False), ("ann", 1, False), ("ann", 0, True), ("bob", 0, True),
                              ("bob", 1, True), ("cid", 1, True), ("eve", 0, True), ("bell", 1, True)]:
            self.ills(line(house, (0, ("ready", c))), name(house, 1), ill)
        pile = line("dan", (0, ("ready", 0)), (0, ("ready", 1)), (0, ("ready", 0)), (0, NOTE))
        for nr, ill in [(1, False), (2, False), (3, True), (4, False)]:
            self.ills(pile, name("dan", nr), ill)
        pile = line("cid", (0, ("ready", 0))) + line("dan", (0, ("ready", 0), CID))
        self.ills(pile, name("dan", 1), False)

    def test_hand(self):
        cid = line("cid", (0, NOTE), (0, ("ready", 0)), (0, NOTE))
        for got, ill in [(1, True), (2, False), (3, False)]:
            pile = cid + line("ann", (0, JOIN), (0, ("hand", 0, "cid"), name("cid", got)))
            self.ills(pile, name("ann", 2), ill)
            pile = cid + line("ann", (0, JOIN, name("cid", got)), (0, ("hand", 0, "cid")))
            self.ills(pile, name("ann", 2), ill)
        pile = cid + line("ann", (0, JOIN), (0, ("hand", 0, "cid")), (0, NOTE, name("cid", 2)))
        self.ills(pile, name("ann", 2), True)

    def test_hand_without_join(self):
        cid = line("cid", (0, ("ready", 0)))
        self.ills(cid + line("ann", (0, NOTE, CID), (0, ("hand", 0, "cid"))), name("ann", 2), True)
        self.ills(cid + line("ann", (0, ("hand", 0, "cid"), CID), (0, JOIN)), ANN, True)
        self.ills(cid + line("ann", (0, JOIN, CID), (0, NOTE), (0, ("hand", 0, "cid"))), name("ann", 3), False)

    def test_hand_ahead_of_the_begin(self):
        dan = line("dan", (0, ("ready", 1)))
        self.ills(dan + line("bob", (0, JOIN, name("dan", 1)), (0, ("hand", 1, "dan"))), name("bob", 2), False)

    def test_hand_of_another_house(self):
        cid = line("cid", (0, ("ready", 0)))
        for house in ["bob", "dan", "eve"]:
            self.ills(cid + line(house, (0, JOIN, CID), (0, ("hand", 0, "cid"))), name(house, 2), True)
        pile = cid + line("dan", (0, JOIN), (0, ("ready", 0)))
        pile += line("ann", (0, JOIN, name("dan", 2)), (0, ("hand", 0, "dan")))
        pile += [letter("dan", 3, 2, (CID, name("ann", 2))[::-1], deed=("hand", 0, "cid"))]
        self.ills(pile, name("ann", 2), False)
        self.ills(pile, name("dan", 3), True)

    def test_hand_twice(self):
        pile = line("cid", (0, ("ready", 0))) + line("dan", (0, ("ready", 0)))
        ann = line("ann", (0, JOIN, CID, name("dan", 1)), (0, ("hand", 0, "cid")), (0, ("hand", 0, "dan")))
        self.ills(pile + ann, name("ann", 2), False)
        self.ills(pile + ann, name("ann", 3), True)
        ann = line("ann", (0, JOIN, CID), (0, ("hand", 1, "cid")), (0, ("hand", 0, "cid")))
        self.ills(pile + ann, name("ann", 3), False)
        ann = line("ann", (0, JOIN, CID), (0, ("hand", 0, "eve")), (0, ("hand", 0, "cid")))
        self.ills(pile + ann, name("ann", 3), True)

    def test_hand_to_whom(self):
        for to in ["bob", "eve"]:
            pile = line(to, (0, ("ready", 0))) + line("ann", (0, JOIN, name(to, 1)), (0, ("hand", 0, to)))
            self.ills(pile, name("ann", 2), True)
        self.ills(line("ann", (0, JOIN), (0, ("ready", 0)), (0, ("hand", 0, "ann"))), name("ann", 3), True)

    def test_hand_by_a_ready_of_another_house_clause_or_deal(self):
        for house, deal, deed in [("dan", "sale", ("ready", 0)), ("cid", "sale", ("ready", 1)),
                                  ("cid", "rent", ("ready", 0)), ("cid", "sale", JOIN)]:
            pile = line(house, (0, deed), deal=deal)
            pile += line("ann", (0, JOIN, name(house, 1, deal)), (0, ("hand", 0, "cid")))
            self.ills(pile, name("ann", 2), True)

    def test_quit(self):
        town = town_of(clause(within=50, leave=(("said", 1, "no"), 4)), clause(0, 1))
        for steps, ill in [([(0, JOIN), (4, ("quit", 0))], False), ([(0, JOIN), (3, ("quit", 0))], True),
                           ([(0, JOIN), (4, ("quit", 1))], True), ([(0, NOTE), (4, ("quit", 0))], True),
                           ([(0, JOIN), (4, ("quit", 0)), (5, ("quit", 0))], False)]:
            self.ills(line("ann", *steps), name("ann", len(steps)), ill, town)
        for house in ["bob", "cid", "eve"]:
            self.ills(line(house, (0, JOIN), (9, ("quit", 0))), name(house, 2), True, town)


class Whole(Reads):
    TOWN = town_of(clause(within=5), clause(1, 0, within=2, conds=[("joined", 0)]), span=1)
    PILE = (line("ann", (1, JOIN), (3, ("do", 0, 0)), (2, ("do", 1, 0)))
            + line("bob", (1, JOIN, ANN), (4, NOTE)) + line("zed", (9, JOIN), deal="lost")
            + [letter("bell", 1, 1, deed=JOIN)])
    COMINGS = {name("ann", 2): 1, name("bob", 2): 9, name("zed", 1, "lost"): 8, name("ann", 9): 0}

    def test_all_claims(self):
        told = [("ahead", name("ann", 2)), ("back", name("ann", 3)), ("held", ANN, 0, 6), ("held", BOB, 1, 3),
                ("ill", name("ann", 3)), ("kept", name("ann", 2), 0), ("kept", name("ann", 3), 0),
                ("late", name("bob", 2), 1), ("loose", name("bell", 1))]
        for order in [self.PILE, self.PILE[::-1], self.PILE + self.PILE]:
            self.assertEqual(read(self.TOWN, order, self.COMINGS), told)
        self.assertEqual(read(self.TOWN, self.PILE, {}), told[1:])

    def test_kinds(self):
        told = read(self.TOWN, self.PILE, self.COMINGS)
        self.assertIs(type(told), list)
        for claim in told:
            self.assertIs(type(claim), tuple)
            self.assertIs(type(claim[1]), tuple)
            for number in claim[2:]:
                self.assertIs(type(number), int)
        self.assertIs(type(claims_of(self.TOWN, self.PILE, ANN)), list)

    def test_nothing(self):
        self.assertEqual(read(self.TOWN, [], {}), [])
        self.assertEqual(read((0, {}), line("ann", (1, JOIN), (1, JOIN)), {}), [])

    def test_what_is_handed_in_stays_and_what_is_told_is_the_askers_own(self):
        given = copy.deepcopy((self.TOWN, self.PILE, self.COMINGS))
        told = read(self.TOWN, self.PILE, self.COMINGS)
        one = claims_of(self.TOWN, self.PILE, ANN)
        kept = (list(told), list(one))
        told.clear()
        one.append("x")
        other = read(town_of(clause(0, 2)), self.PILE[:2], {})
        self.assertNotEqual(other, kept[0])
        self.assertEqual((read(self.TOWN, self.PILE, self.COMINGS), claims_of(self.TOWN, self.PILE, ANN)), kept)
        self.assertEqual((self.TOWN, self.PILE, self.COMINGS), given)

    def test_three_hundred_letters(self):
        town = town_of(clause(within=299))
        pile = line("ann", (1, JOIN), *[(at, NOTE) for at in range(2, 301)])
        self.assertEqual(read(town, pile, {}), [("held", name("ann", nr), 0, 300) for nr in range(1, 301)])

    def test_made_piles(self):
        for seed in range(400):
            maker = PileMaker(seed)
            town = maker.town()
            pile = maker.whole(town, 14)
            self.assertTrue(is_town(town) and is_whole(pile), seed)
            comings = maker.comings(pile)
            told = slow_read(town, pile, comings)
            self.assertEqual(read(town, pile, comings), told, seed)
            for one in pile:
                own = [claim for claim in told if claim[1] == one[:3] and claim[0] in ("held", "kept", "late", "ill")]
                self.assertEqual(claims_of(town, pile, one[:3]), own, seed)


if __name__ == "__main__":
    unittest.main()
