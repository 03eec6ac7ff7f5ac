import copy
import itertools
import unittest

from clerks import Road
from holdword.judging import told
from holdword.keepers import Keeper
from holdword.letters import is_letter
from holdword.piles import is_pile
from samples import GO, JOIN, NOTE, clause, letter, line, name, town_of

ANN = name("ann", 1)
BOB = name("bob", 1)
BROKEN = ("late", "ill", "back", "twin", "loose", "behind", "ahead")


def keeper_with(town, *letters, house="ann"):
    """A keeper to which the letters came."""
    keeper = Keeper(town, house)
    for one in letters:
        keeper.came(one)
    return keeper


class Writes(unittest.TestCase):
    TOWN = town_of(clause(), span=2, others={"rent": (("ann", "bob"), (), 100, (clause(),))})

    def gots(self, keeper, deal="sale"):
        """The gots of the next letter of a keeper."""
        return keeper.write(deal, 50, NOTE)[4]

    def setUp(self):
        # A clause that isn't begun holds nobody, so that notes may be written at any time.
        self.keeper = Keeper(self.TOWN, "ann")

    def test_next_letters(self):
        self.assertEqual(self.keeper.letters(), [])
        self.assertEqual(self.keeper.write("sale", 3, NOTE), letter("ann", 1, time=3))
        self.assertEqual(self.keeper.write("sale", 3, GO), letter("ann", 2, 1, time=3, deed=GO))
        self.assertEqual(self.keeper.write("sale", 10 ** 29, NOTE), letter("ann", 3, 2, time=10 ** 29))
        self.assertTrue(all(is_letter(one) for one in self.keeper.letters()))

    def test_each_deal_by_itself(self):
        wrote = [self.keeper.write(deal, 3, NOTE) for deal in ("sale", "rent", "sale", "lost", "rent", "lost")]
        self.assertEqual([one[1:4] for one in wrote], [("sale", 1, 0), ("rent", 1, 0), ("sale", 2, 1), ("lost", 1, 0),
                                                       ("rent", 2, 1), ("lost", 2, 1)])
        # Its own letters in other deals are among the gots.
        self.assertEqual([one[4] for one in wrote], [
            (), (ANN,), (name("ann", 1, "rent"),), (name("ann", 1, "rent"), name("ann", 2)),
            (name("ann", 1, "lost"), name("ann", 2)), (name("ann", 2, "rent"),)])
        self.assertEqual(self.keeper.letters(), sorted(wrote))

    def test_times_in_other_deals(self):
        self.keeper.write("sale", 9, NOTE)
        self.assertEqual(self.keeper.write("rent", 3, NOTE), letter("ann", 1, 0, (ANN,), "rent", NOTE, 3))

    def test_gots_are_tips_that_were_not_met(self):
        for one in line("bob", (0, NOTE), (0, NOTE)) + line("bob", (0, NOTE), deal="rent") + line("cid", (0, NOTE)):
            self.keeper.came(one)
        self.assertEqual(self.gots(self.keeper), (name("bob", 1, "rent"), name("bob", 2), name("cid", 1)))
        self.assertEqual(self.gots(self.keeper), ())
        for one in line("bob", (0, NOTE), (0, NOTE), (0, NOTE), (0, GO)) + line("dan", (0, NOTE)):
            self.keeper.came(one)
        self.assertEqual(self.gots(self.keeper), (name("bob", 4), name("dan", 1)))
        self.assertEqual(self.gots(self.keeper), ())
        # In another deal none of this was met.
        self.assertEqual(self.gots(self.keeper, "lost"), (name("ann", 4), name("bob", 1, "rent"), name("bob", 4),
                                                          name("cid", 1), name("dan", 1)))

    def test_letters_that_follow_on_the_same_one(self):
        bob = [letter("bob", 1), letter("bob", 2, 1), letter("bob", 3, 1), letter("bob", 4, 2)]
        for one in bob[:3]:
            self.keeper.came(one)
        self.assertEqual(self.gots(self.keeper), (name("bob", 2), name("bob", 3)))
        self.keeper.came(bob[3])
        self.assertEqual(self.gots(self.keeper), (name("bob", 4),))
        other = keeper_with(self.TOWN, bob[0], bob[1])
        self.assertEqual(self.gots(other), (name("bob", 2),))
        other.came(bob[2])
        self.assertEqual(self.gots(other), (name("bob", 3),))

    def test_thirty_gots(self):
        many = [letter("bob", nr) for nr in range(1, 65)]
        for order in [many, many[::-1]]:
            keeper = keeper_with(self.TOWN, *order)
            names = [one[:3] for one in many]
            self.assertEqual(self.gots(keeper), tuple(names[:30]))
            self.assertEqual(self.gots(keeper), tuple(names[30:60]))
            self.assertEqual(self.gots(keeper), tuple(names[60:]))
            self.assertEqual(self.gots(keeper), ())
            self.assertTrue(all(is_letter(one) for one in keeper.letters()))
        self.assertEqual(len(self.gots(keeper_with(self.TOWN, *many[:30]))), 30)

    def test_letters_that_wait(self):
        bob = line("bob", (0, NOTE), (0, NOTE), (0, NOTE), (0, NOTE))
        for order in itertools.permutations(bob):
            keeper = Keeper(self.TOWN, "ann")
            met = 0
            for many, one in enumerate(order, start=1):
                keeper.came(one)
                here = [other[2] for other in order[:many]]
                known = max(at for at in range(5) if set(range(1, at + 1)) <= set(here))
                self.assertEqual(self.gots(keeper), (name("bob", known),) if known > met else ())
                met = known

    def test_letters_whose_gots_never_came(self):
        # That of a got nothing came doesn't keep a letter waiting.
        self.keeper.came(letter("bob", 1, 0, (name("cid", 4), name("ann", 7))))
        self.assertEqual(self.gots(self.keeper), (BOB,))

    def test_rings_and_rows_without_beginning(self):
        lost = [letter("bob", 5, 5), letter("bob", 6, 7), letter("bob", 7, 6), letter("bob", 8, 7), letter("cid", 3, 2)]
        keeper = keeper_with(self.TOWN, *lost, letter("cid", 9))
        self.assertEqual(self.gots(keeper), (name("cid", 9),))
        self.assertEqual(self.gots(keeper), ())

    def test_letters_of_its_own_house(self):
        for deal, nr, prev in [("sale", 1, 0), ("sale", 2, 1), ("sale", 4, 0), ("rent", 1, 0), ("lost", 3, 0)]:
            self.assertIsNone(self.keeper.came(letter("ann", nr, prev, deal=deal, time=99, deed=JOIN)))
        self.assertEqual(self.keeper.letters(), [])
        self.assertEqual(self.keeper.write("sale", 3, JOIN), letter("ann", 1, time=3, deed=JOIN))
        self.keeper.came(letter("ann", 2, 1, time=99, deed=("do", 0, 0)))
        self.assertEqual(self.keeper.owed(8), [("sale", 0, 0, 8)])
        self.assertEqual(self.keeper.write("sale", 4, NOTE), letter("ann", 2, 1, time=4))

    def test_letters_that_come_twice(self):
        bob = line("bob", (0, NOTE), (0, NOTE))
        keeper = keeper_with(self.TOWN, bob[1], bob[1], bob[0], bob[1], bob[0])
        self.assertEqual(self.gots(keeper), (name("bob", 2),))
        keeper.came(bob[1])
        keeper.came(bob[0])
        self.assertEqual(self.gots(keeper), ())

    def test_bells_letters(self):
        keeper = keeper_with(self.TOWN, *line("bell", (1, NOTE), (2, NOTE)), *line("bell", (7, NOTE), deal="lost"))
        self.assertEqual(keeper.write("sale", 5, NOTE)[4], (name("bell", 1, "lost"), name("bell", 2)))

    def test_a_house_of_no_deal(self):
        eve = Keeper(self.TOWN, "eve")
        self.assertEqual(eve.write("sale", 1, NOTE), letter("eve", 1, time=1))
        self.assertIsNone(eve.write("sale", 1, JOIN))
        self.assertEqual(eve.write("sale", 1, GO), letter("eve", 2, 1, time=1, deed=GO))
        self.assertEqual(eve.owed(10 ** 9), [])

    def test_deals_that_the_town_has_not(self):
        for deed in [JOIN, JOIN, ("do", 11, 8), ("free", 3), ("hand", 0, "ann"), ("quit", 0), ("ready", 0)]:
            self.assertEqual(self.keeper.write("lost", 3, deed)[6], deed)
        self.assertIsNone(self.keeper.write("lost", 2, NOTE))
        self.assertEqual(self.keeper.owed(10 ** 9), [])
        self.assertEqual(len(self.keeper.letters()), 7)


class NotWritten(unittest.TestCase):
    def refused(self, keeper, deal, time, deed):
        """The letter isn't written, and nothing has changed: what is written next is as if it never was asked for."""
        before = (keeper.letters(), keeper.owed(10 ** 9))
        other = copy.deepcopy(keeper)
        self.assertIsNone(keeper.write(deal, time, deed))
        self.assertEqual((keeper.letters(), keeper.owed(10 ** 9)), before)
        for then in (keeper.write, other.write):
            before += (then(deal, time, NOTE), then("lost", time, NOTE))
        self.assertEqual(before[2:4], before[4:])

    def test_ill(self):
        town = town_of(clause(conds=[("said", 1, "go")], parts=2, leave=(("said", 2, "no"), 2)), clause(1, 0))
        bob, cid = line("bob", (0, GO)), line("cid", (0, ("ready", 0)))
        ready = [("ann", ("ready", 0)), ("bob", ("ready", 0))]
        for house, deed in ready + [("ann", ("free", 0)), ("cid", ("free", 0)), ("ann", ("do", 0, 0)),
                                    ("ann", ("hand", 0, "cid")), ("cid", ("hand", 0, "dan")), ("ann", ("quit", 0)),
                                    ("ann", ("do", 2, 0)), ("ann", ("free", 2)), ("eve", JOIN)]:
            self.refused(Keeper(town, house), "sale", 1, deed)
        for house, deed in [("bob", ("free", 0)), ("ann", ("free", 1)), ("cid", ("ready", 0)), ("dan", ("ready", 1))]:
            self.assertIsNotNone(Keeper(town, house).write("sale", 1, deed))
        keeper = Keeper(town, "ann")
        keeper.write("sale", 1, JOIN)
        for deed in [JOIN, ("do", 0, 0), ("hand", 0, "cid"), ("quit", 0)]:
            self.refused(copy.deepcopy(keeper), "sale", 1, deed)
        for one in bob + cid:
            keeper.came(one)
        for deed in [("do", 0, 2), ("hand", 0, "dan"), ("hand", 0, "ann"), ("hand", 0, "bob"), ("hand", 0, "eve"),
                     ("quit", 0), ("do", 1, 0)]:
            self.refused(copy.deepcopy(keeper), "sale", 1, deed)
        for deed in [("do", 0, 0), ("do", 0, 1), ("hand", 0, "cid")]:
            self.assertEqual(copy.deepcopy(keeper).write("sale", 1, deed)[4], (BOB, name("cid", 1)))
        keeper.write("sale", 1, ("hand", 0, "cid"))
        for deed in [("do", 0, 0), ("hand", 0, "cid")]:
            self.refused(copy.deepcopy(keeper), "sale", 1, deed)

    def test_quits(self):
        town = town_of(clause(leave=(("said", 2, "no"), 2)))
        keeper = Keeper(town, "ann")
        keeper.write("sale", 1, JOIN)
        self.refused(copy.deepcopy(keeper), "sale", 2, ("quit", 0))
        self.assertIsNotNone(copy.deepcopy(keeper).write("sale", 3, ("quit", 0)))
        keeper.came(letter("cid", 2, 1, deed=("say", "no")))
        # It waits, and isn't seen.
        self.assertIsNotNone(copy.deepcopy(keeper).write("sale", 3, ("quit", 0)))
        keeper.came(letter("cid", 1))
        self.refused(copy.deepcopy(keeper), "sale", 3, ("quit", 0))

    def test_late(self):
        keeper = Keeper(town_of(clause(within=5, parts=2), span=9), "ann")
        keeper.write("sale", 1, JOIN)
        for deed in [NOTE, ("do", 0, 0), ("free", 3), GO]:
            self.refused(copy.deepcopy(keeper), "sale", 7, deed)
        for deed in [NOTE, ("do", 0, 0), GO]:
            self.assertIsNotNone(copy.deepcopy(keeper).write("sale", 6, deed))
        # By another deal nothing is late.
        self.assertIsNotNone(copy.deepcopy(keeper).write("lost", 7, NOTE))
        keeper.write("sale", 6, ("do", 0, 0))
        self.refused(copy.deepcopy(keeper), "sale", 7, ("do", 0, 1))
        keeper.write("sale", 6, ("do", 0, 1))
        self.assertIsNotNone(keeper.write("sale", 10 ** 29, NOTE))

    def test_late_but_let_off(self):
        keeper = Keeper(town_of(clause(within=5)), "ann")
        keeper.write("sale", 1, JOIN)
        self.refused(copy.deepcopy(keeper), "sale", 7, NOTE)
        keeper.came(letter("bob", 1, deed=("free", 0)))
        self.assertEqual(keeper.write("sale", 7, NOTE), letter("ann", 2, 1, (BOB,), time=7))

    def test_back(self):
        keeper = Keeper(town_of(clause(conds=[("said", 1, "go")]), span=5), "ann")
        keeper.write("sale", 4, JOIN)
        keeper.write("lost", 3, NOTE)
        self.refused(copy.deepcopy(keeper), "sale", 3, NOTE)
        self.refused(copy.deepcopy(keeper), "lost", 2, NOTE)
        self.assertIsNotNone(copy.deepcopy(keeper).write("sale", 4, NOTE))
        self.assertIsNotNone(copy.deepcopy(keeper).write("lost", 3, NOTE))
        self.assertIsNotNone(copy.deepcopy(keeper).write("rent", 0, NOTE))

    def test_behind(self):
        for deal in ("sale", "lost"):
            keeper = keeper_with(town_of(clause(), span=2), letter("bell", 1, time=7, deal=deal))
            self.refused(copy.deepcopy(keeper), "sale", 4, NOTE)
            self.refused(copy.deepcopy(keeper), "lost", 4, NOTE)
            self.assertEqual(copy.deepcopy(keeper).write("sale", 5, NOTE)[4], (name("bell", 1, deal),))
            self.assertEqual(copy.deepcopy(keeper).write("lost", 5, NOTE)[4], (name("bell", 1, deal),))
        # Other houses' times, and bell's where they wait, bar nothing.
        keeper = keeper_with(town_of(clause(), span=2), letter("bob", 1, time=7), letter("bell", 2, 1, time=7))
        self.assertIsNotNone(keeper.write("sale", 4, NOTE))

    def test_behind_once_it_was_got(self):
        keeper = keeper_with(town_of(clause(), span=2), letter("bell", 1, time=7))
        self.assertIsNotNone(keeper.write("sale", 5, NOTE))
        self.assertEqual(keeper.write("sale", 5, NOTE)[4], ())
        self.refused(keeper, "lost", 4, NOTE)


class Owed(unittest.TestCase):
    def test_parts(self):
        keeper = Keeper(town_of(clause(parts=3, within=5)), "ann")
        self.assertEqual(keeper.owed(10 ** 9), [])
        keeper.write("sale", 1, JOIN)
        self.assertEqual(keeper.owed(5), [])
        self.assertEqual(keeper.owed(6), [("sale", 0, p, 6) for p in range(3)])
        self.assertEqual(keeper.owed(10 ** 29), [("sale", 0, p, 6) for p in range(3)])
        keeper.write("sale", 2, ("do", 0, 1))
        self.assertEqual(keeper.owed(6), [("sale", 0, 0, 6), ("sale", 0, 2, 6)])
        keeper.write("sale", 2, ("do", 0, 1))
        keeper.write("sale", 2, ("do", 0, 0))
        self.assertEqual(keeper.owed(6), [("sale", 0, 2, 6)])
        self.assertEqual(keeper.owed(0), [])
        keeper.write("sale", 6, ("do", 0, 2))
        self.assertEqual(keeper.owed(10 ** 9), [])

    def test_several_clauses_and_deals(self):
        rent = (("bob", "ann"), (), 100, (clause(1, 0, within=2), clause(1, 0, conds=[("said", 0, "go")])))
        keeper = Keeper(town_of(clause(within=5), clause(0, 2, parts=2, within=3), clause(1, 0), others={"rent": rent}), "ann")
        keeper.write("sale", 1, JOIN)
        self.assertEqual(keeper.owed(4), [("sale", 1, 0, 4), ("sale", 1, 1, 4)])
        keeper.write("rent", 2, JOIN)
        self.assertEqual(keeper.owed(4), [("rent", 0, 0, 4), ("sale", 1, 0, 4), ("sale", 1, 1, 4)])
        self.assertEqual(keeper.owed(9), [("rent", 0, 0, 4), ("sale", 0, 0, 6), ("sale", 1, 0, 4), ("sale", 1, 1, 4)])
        # Bob's word is known, but no letter has met it yet.
        keeper.came(letter("bob", 1, deal="rent", deed=GO))
        self.assertEqual(len(keeper.owed(9)), 4)
        keeper.write("rent", 3, ("do", 0, 0))
        self.assertEqual(keeper.owed(9), [("rent", 1, 0, 8), ("sale", 0, 0, 6), ("sale", 1, 0, 4), ("sale", 1, 1, 4)])

    def test_freed_handed_on_and_quitted(self):
        town = town_of(clause(leave=(("said", 2, "no"), 2)))
        for came, deed in [([letter("bob", 1, deed=("free", 0))], NOTE), ([], ("quit", 0)),
                           ([letter("cid", 1, deed=("ready", 0))], ("hand", 0, "cid"))]:
            keeper = Keeper(town, "ann")
            keeper.write("sale", 1, JOIN)
            for one in came:
                keeper.came(one)
            self.assertEqual(keeper.owed(9), [("sale", 0, 0, 6)])
            self.assertIsNotNone(keeper.write("sale", 3, deed))
            self.assertEqual(keeper.owed(9), [])
            self.assertIsNotNone(keeper.write("sale", 60, NOTE))

    def test_taken_up(self):
        keeper = Keeper(town_of(clause()), "cid")
        keeper.write("sale", 1, ("ready", 0))
        keeper.came(letter("ann", 1, deed=("hand", 0, "cid")))
        self.assertEqual(keeper.owed(9), [])
        keeper.write("sale", 2, NOTE)
        self.assertEqual(keeper.owed(9), [("sale", 0, 0, 7)])
        keeper.write("sale", 7, ("do", 0, 0))
        self.assertEqual(keeper.owed(9), [])

    def test_past_due(self):
        keeper = Keeper(town_of(clause()), "ann")
        keeper.write("sale", 1, JOIN)
        for time in (7, 8, 100):
            self.assertIsNone(keeper.write("sale", time, ("do", 0, 0)))
            self.assertIsNone(keeper.write("sale", time, NOTE))
            self.assertEqual(keeper.owed(time), [("sale", 0, 0, 6)])

    def test_what_is_owed_may_be_done(self):
        town = town_of(clause(parts=2, within=9), clause(0, 2, within=4), span=2)
        keeper = Keeper(town, "ann")
        keeper.write("sale", 3, JOIN)
        for time in range(3, 8):
            for c, p in [(0, 0), (0, 1), (1, 0)]:
                self.assertIsNotNone(copy.deepcopy(keeper).write("sale", time, ("do", c, p)))
        for time in (2, 8):
            self.assertIsNone(copy.deepcopy(keeper).write("sale", time, ("do", 0, 0)))
        keeper.came(letter("bell", 1, time=7))
        for time in range(3, 8):
            self.assertIs(copy.deepcopy(keeper).write("sale", time, ("do", 0, 0)) is None, time < 5)


class OwnThings(unittest.TestCase):
    def test_two_keepers_side_by_side(self):
        town = town_of(clause())
        ann, bob, other = Keeper(town, "ann"), Keeper(town, "bob"), Keeper(town, "ann")
        one = ann.write("sale", 1, JOIN)
        bob.came(one)
        self.assertEqual(bob.write("sale", 0, NOTE), letter("bob", 1, 0, (ANN,)))
        self.assertEqual((other.letters(), other.owed(9)), ([], []))
        self.assertEqual(other.write("sale", 4, NOTE), letter("ann", 1, time=4))
        self.assertEqual(ann.letters(), [one])

    def test_what_is_told_is_the_askers_own(self):
        keeper = Keeper(town_of(clause()), "ann")
        one = keeper.write("sale", 1, JOIN)
        first = keeper.letters()
        for turn in range(2):
            self.assertEqual(keeper.letters(), [one])
            self.assertEqual(keeper.owed(9), [("sale", 0, 0, 6)])
            keeper.letters().clear()
            keeper.owed(9).append("x")
        keeper.write("sale", 2, NOTE)
        self.assertEqual(first, [one])

    def test_what_is_handed_in_stays_and_may_be_changed(self):
        town = town_of(clause())
        given = copy.deepcopy(town)
        keeper = Keeper(town, "ann")
        keeper.write("sale", 1, JOIN)
        keeper.owed(9)
        self.assertEqual(town, given)
        town[1].clear()
        self.assertEqual(keeper.owed(9), [("sale", 0, 0, 6)])
        self.assertIsNone(keeper.write("sale", 9, NOTE))

    def test_letters_are_sorted_by_names(self):
        keeper = Keeper((0, {}), "ann")
        for at in range(12):
            keeper.write("b", at, NOTE)
            keeper.write("a", at, NOTE)
        self.assertEqual([one[:3] for one in keeper.letters()],
                         [("ann", deal, nr) for deal in ("a", "b") for nr in range(1, 13)])


class OnTheRoad(unittest.TestCase):
    def may_do_what_is_owed(self, road, house):
        """What is owed in a deal may be done from the time of the last letter there to the least due there."""
        keeper = road.keepers[house]
        bells = [one[5] for one in road.slow[house].known() if one[0] == "bell"]
        for deal, c, p, due in keeper.owed(10 ** 9):
            last = [one for one in keeper.letters() if one[1] == deal][-1]
            least = min(part[3] for part in keeper.owed(10 ** 9) if part[0] == deal)
            for time in {last[5], (last[5] + least) // 2, least}:
                if not [bell for bell in bells if bell > time + road.town[0]]:
                    self.assertIsNotNone(copy.deepcopy(keeper).write(deal, time, ("do", c, p)))

    def test_houses_with_keepers_never_broke(self):
        wrote, refused, owed, liars = 0, 0, 0, 0
        for seed in range(60):
            road = Road(seed)
            for step in range(40):
                house, found = road.step()
                if found is not None:
                    self.assertEqual(found[0], found[1], (seed, step))
                    self.assertEqual(road.keepers[house].owed(road.now + 2), road.slow[house].owed(road.now + 2))
                    self.may_do_what_is_owed(road, house)
                    owed += len(road.keepers[house].owed(10 ** 9))
            for house in road.keepers:
                self.assertEqual(road.keepers[house].letters(), road.slow[house].letters())
                wrote += len(road.keepers[house].letters())
            refused += road.refused
            self.assertTrue(is_pile(road.written))
            for lost in (0, 0, 4, 12):
                pile = road.maker.some(road.written, lost)
                broke = [claim for claim in told(road.town, pile, road.comings) if claim[0] in BROKEN]
                self.assertEqual([claim for claim in broke if claim[1][0] in road.keepers], [], seed)
                liars += len(broke)
        self.assertGreater(min(wrote, refused, owed, liars), 200)

    def test_what_is_got_is_known(self):
        for seed in range(20):
            road = Road(seed)
            for step in range(30):
                road.step()
            for house, keeper in road.keepers.items():
                known = {one[:3] for one in road.slow[house].known()}
                self.assertLessEqual({got for one in keeper.letters() for got in one[4]}, known)


if __name__ == "__main__":
    unittest.main()
