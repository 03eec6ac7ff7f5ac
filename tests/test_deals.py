import copy
import unittest

from holdword.deals import end_of, is_deal, is_town, is_word
from samples import ANYTHING, Checks, DEAL, Maker, NO_NUMBERS, NO_WORDS, PLAIN, RENT, TOWN, at

HUGE = 10 ** 30 - 1


class Words(Checks):
    def test_words(self):
        for thing in ["a", "z", "m", "ab", "bell", "deal", "abcdefghijkl", "zzzzzzzzzzzz"]:
            self.yes(is_word(thing))

    def test_every_small_letter_is_one(self):
        for code in range(ord(" "), ord("~") + 1):
            self.assertIs(is_word(chr(code)), "a" <= chr(code) <= "z", chr(code))
            self.assertIs(is_word("ab" + chr(code) + "c"), "a" <= chr(code) <= "z", chr(code))

    def test_lengths(self):
        for many in range(16):
            self.assertIs(is_word("x" * many), 1 <= many <= 12)

    def test_other_things(self):
        for thing in NO_WORDS + ANYTHING:
            self.no(is_word(thing), thing)

    def test_asked_again(self):
        for thing in ["a", "", 5, [1]]:
            self.assertIs(is_word(thing), is_word(thing))


def deal_of(clause, houses=("a", "b"), others=(), close=0):
    return (houses, others, close, (clause,))


class Deals(Checks):
    def test_deals(self):
        for deal in [DEAL, RENT, deal_of(PLAIN), (("a", "b"), ("a",), 3, (PLAIN, PLAIN))]:
            self.yes(is_deal(deal))

    def test_other_things(self):
        for thing in ANYTHING:
            self.no(is_deal(thing), thing)

    def test_lists_for_tuples(self):
        self.no(is_deal(list(DEAL)))
        for path in [(0,), (1,), (3,), (3, 0), (3, 0, 4), (3, 0, 4, 0), (3, 0, 4, 1), (3, 0, 4, 2), (3, 0, 5),
                     (3, 0, 5, 0), (3, 1, 5)]:
            thing = DEAL
            for place in path:
                thing = thing[place]
            self.no(is_deal(at(DEAL, path, list(thing))), path)
            self.no(is_deal(at(DEAL, path, dict(enumerate(thing)))), path)

    def test_anything_at_each_place(self):
        odd = [thing for thing in ANYTHING if isinstance(thing, bool) or not isinstance(thing, int)]
        # No conds and no leave are good ones.
        may_be_empty = [(3, 0, 4), (3, 0, 5), (3, 1, 5), (3, 2, 4), (3, 2, 5)]
        for path in [(0,), (2,), (3,), (0, 0), (1, 0), (3, 0), (3, 0, 0), (3, 0, 1), (3, 0, 2), (3, 0, 3), (3, 0, 4),
                     (3, 0, 5), (3, 0, 4, 0), (3, 0, 4, 0, 0), (3, 0, 4, 0, 1), (3, 0, 4, 1, 1), (3, 0, 4, 1, 2),
                     (3, 0, 4, 2, 1), (3, 0, 4, 2, 2), (3, 0, 4, 2, 3), (3, 0, 5, 0), (3, 0, 5, 1), (3, 0, 5, 0, 0),
                     (3, 0, 5, 0, 1), (3, 0, 5, 0, 2), (3, 0, 5, 0, 3), (3, 1, 5), (3, 2, 4), (3, 2, 5)]:
            for thing in odd:
                if thing != () or path not in may_be_empty:
                    self.no(is_deal(at(DEAL, path, thing)), (path, thing))

    def test_too_few_and_too_many(self):
        self.no(is_deal(DEAL[:3]))
        self.no(is_deal(DEAL + ((),)))
        for path in [(3, 0), (3, 0, 4, 0), (3, 0, 4, 1), (3, 0, 4, 2), (3, 0, 5), (3, 0, 5, 0), (3, 2, 5, 0)]:
            thing = DEAL
            for place in path:
                thing = thing[place]
            self.no(is_deal(at(DEAL, path, thing[:-1])), path)
            self.no(is_deal(at(DEAL, path, thing + (0,))), path)
            self.no(is_deal(at(DEAL, path, thing + ("a",))), path)

    def test_houses(self):
        words = tuple("abcdefghij")
        for many in range(11):
            self.assertIs(is_deal(deal_of(PLAIN, words[:many])), 2 <= many <= 8, many)
        self.no(is_deal((("a",), (), 0, ())))
        self.no(is_deal((("a",), (), 0, ((0, 0, 1, 1, (), ()),))))

    def test_houses_are_words(self):
        for word in NO_WORDS:
            self.no(is_deal(deal_of(PLAIN, ("a", "b", word))), word)
            self.no(is_deal(deal_of(PLAIN, (word, "a", "b"))), word)
        self.yes(is_deal(deal_of(PLAIN, ("a", "abcdefghijkl"))))
        self.no(is_deal(deal_of(PLAIN, ["a", "b"])))
        self.no(is_deal(deal_of(PLAIN, "ab")))

    def test_bell_is_no_house(self):
        for houses in [("bell", "a"), ("a", "bell"), ("a", "b", "bell")]:
            self.no(is_deal(deal_of(PLAIN, houses)))
        self.yes(is_deal(deal_of(PLAIN, ("bells", "bel"))))

    def test_alike_houses(self):
        for houses in [("a", "a"), ("a", "b", "a"), ("a", "b", "c", "c")]:
            self.no(is_deal(deal_of(PLAIN, houses)))

    def test_others(self):
        words = tuple("abcdefg")
        for many in range(7):
            self.assertIs(is_deal(deal_of(PLAIN, others=words[:many])), many <= 4, many)
        self.yes(is_deal(deal_of(PLAIN, others=("bell",))))
        self.no(is_deal(deal_of(PLAIN, others=("x", "x"))))
        self.no(is_deal(deal_of(PLAIN, others=("x", "y", "x"))))
        for word in NO_WORDS:
            self.no(is_deal(deal_of(PLAIN, others=(word,))), word)
            self.no(is_deal(deal_of(PLAIN, others=("x", word))), word)
        for thing in [None, [], {}, "", "ab", 0, ["x"]]:
            self.no(is_deal(deal_of(PLAIN, others=thing)), thing)

    def test_close(self):
        for close in [0, 1, HUGE]:
            self.yes(is_deal(deal_of(PLAIN, close=close)))
        for close in NO_NUMBERS:
            self.no(is_deal(deal_of(PLAIN, close=close)), close)

    def test_clauses(self):
        for many in range(15):
            self.assertIs(is_deal((("a", "b"), (), 0, (PLAIN,) * many)), 1 <= many <= 12, many)
        self.no(is_deal((("a", "b"), (), 0, [PLAIN])))
        self.no(is_deal((("a", "b"), (), 0, (PLAIN, list(PLAIN)))))
        self.no(is_deal((("a", "b"), (), 0, (PLAIN, None))))
        self.no(is_deal((("a", "b"), (), 0, (None, PLAIN))))

    def test_a_bad_clause_anywhere(self):
        bad = at(PLAIN, (3,), 0)
        for clauses in [(bad, PLAIN, PLAIN), (PLAIN, bad, PLAIN), (PLAIN, PLAIN, bad)]:
            self.no(is_deal((("a", "b"), (), 0, clauses)))


class Clauses(Checks):
    def test_debtor_and_creditor(self):
        houses = ("a", "b", "c")
        for debtor in range(-1, 5):
            for creditor in range(-1, 5):
                good = 0 <= debtor < 3 and 0 <= creditor < 3 and debtor != creditor
                clause = (debtor, creditor, 1, 1, (), ())
                self.assertIs(is_deal(deal_of(clause, houses)), good, (debtor, creditor))

    def test_debtor_and_creditor_are_numbers(self):
        for thing in NO_NUMBERS:
            self.no(is_deal(deal_of(at(PLAIN, (0,), thing), ("a", "b", "c"))), thing)
            self.no(is_deal(deal_of(at((2, 0, 1, 1, (), ()), (1,), thing), ("a", "b", "c"))), thing)
            self.no(is_deal(deal_of(at((2, 1, 1, 1, (), ()), (0,), thing), ("a", "b", "c"))), thing)
            self.no(is_deal(deal_of(at(PLAIN, (1,), thing), ("a", "b", "c"))), thing)

    def test_parts(self):
        for parts in range(-1, 12):
            self.assertIs(is_deal(deal_of(at(PLAIN, (2,), parts))), 1 <= parts <= 9, parts)
        for thing in NO_NUMBERS:
            self.no(is_deal(deal_of(at(PLAIN, (2,), thing))), thing)

    def test_within(self):
        for within in [1, 2, HUGE]:
            self.yes(is_deal(deal_of(at(PLAIN, (3,), within))))
        for thing in NO_NUMBERS + [0]:
            self.no(is_deal(deal_of(at(PLAIN, (3,), thing))), thing)

    def test_how_many_conds(self):
        for many in range(11):
            conds = tuple(("said", 0, word) for word in "abcdefghij"[:many])
            self.assertIs(is_deal(deal_of(at(PLAIN, (4,), conds))), many <= 8, many)
            with_leave = at(at(PLAIN, (4,), conds), (5,), (("said", 1, "a"), 1))
            self.assertIs(is_deal(deal_of(with_leave)), many <= 8, many)

    def test_alike_conds(self):
        joined = ("joined", 0)
        said = ("said", 0, "a")
        for conds in [(joined, joined), (joined, said, joined), (joined, said, said)]:
            self.no(is_deal(deal_of(at(PLAIN, (4,), conds))))
        did = ("did", 0, 1, 0)
        self.no(is_deal((("a", "b"), (), 0, (at(PLAIN, (4,), (did, did)), PLAIN))))

    def test_nearly_alike_conds(self):
        conds = (("joined", 0), ("joined", 1), ("said", 0, "a"), ("said", 1, "a"), ("said", 0, "b"))
        self.yes(is_deal(deal_of(at(PLAIN, (4,), conds))))
        dids = (("did", 1, 1, 0), ("did", 2, 1, 0), ("did", 1, 2, 0), ("did", 1, 1, 1))
        self.yes(is_deal(deal_of(at(PLAIN, (4,), dids), others=("x", "y"))))

    def test_clauses_may_share_events(self):
        clause = at(PLAIN, (4,), (("joined", 0),))
        self.yes(is_deal((("a", "b"), (), 0, (clause, clause))))

    def test_conds_are_a_tuple(self):
        for thing in [None, [], {}, "", 0, False, [("joined", 0)], ("joined", 0), {("joined", 0)}, "ab"]:
            self.no(is_deal(deal_of(at(PLAIN, (4,), thing))), thing)

    def test_leave(self):
        self.yes(is_deal(deal_of(at(PLAIN, (5,), (("joined", 0), 1)))))
        self.yes(is_deal(deal_of(at(PLAIN, (5,), (("joined", 0), HUGE)))))
        for wait in NO_NUMBERS + [0]:
            self.no(is_deal(deal_of(at(PLAIN, (5,), (("joined", 0), wait)))), wait)
        for thing in [None, [], {}, "", 0, False, ((),), (1,), (("joined", 0),), [("joined", 0), 1], ("joined", 0),
                      (1, ("joined", 0)), ((), 1), (None, 1), ("joined", 1), (("joined", 0), 1, 1),
                      (["joined", 0], 1)]:
            self.no(is_deal(deal_of(at(PLAIN, (5,), thing))), thing)

    def test_leave_is_none_of_the_conds(self):
        events = (("joined", 0), ("said", 1, "a"))
        for event in events:
            self.no(is_deal(deal_of(at(at(PLAIN, (4,), events), (5,), (event, 1)))))
        self.yes(is_deal(deal_of(at(at(PLAIN, (4,), events), (5,), (("joined", 1), 1)))))


def with_cond(event):
    """Two deals that bear the event: among the conds, and as the event of leave."""
    clauses = ((0, 1, 2, 1, (), ()), (1, 0, 1, 1, (), ()), (0, 2, 9, 1, (), ()))
    deal = (("a", "b", "c"), ("x", "y"), 5, clauses)
    return [at(deal, (3, 1, 4), (event,)), at(deal, (3, 1, 5), (event, 1))]


class Events(Checks):
    def good(self, event):
        for deal in with_cond(event):
            self.yes(is_deal(deal))

    def bad(self, event):
        for deal in with_cond(event):
            self.no(is_deal(deal), event)

    def test_joined_and_said(self):
        for h in range(-1, 6):
            for event in [("joined", h), ("said", h, "go")]:
                if 0 <= h < 3:
                    self.good(event)
                else:
                    self.bad(event)

    def test_said_words(self):
        for word in ["a", "bell", "abcdefghijkl", "deal"]:
            self.good(("said", 0, word))
        for word in NO_WORDS:
            self.bad(("said", 0, word))

    def test_did_here(self):
        for c in range(-1, 5):
            for p in range(-1, 12):
                event = ("did", 0, c, p)
                parts = {0: 2, 2: 9}.get(c, 0)
                if 0 <= p < parts:
                    self.good(event)
                else:
                    self.bad(event)

    def test_did_of_the_clause_itself(self):
        self.bad(("did", 0, 1, 0))
        self.good(("did", 1, 1, 0))

    def test_did_elsewhere(self):
        for k in range(-1, 5):
            for c in [-1, 0, 1, 11, 12, 13]:
                for p in [-1, 0, 8, 9, 10]:
                    event = ("did", k, c, p)
                    if k in (1, 2) and 0 <= c <= 11 and 0 <= p <= 8:
                        self.good(event)
                    elif k != 0:
                        self.bad(event)

    def test_did_without_others(self):
        self.no(is_deal(deal_of(at(PLAIN, (4,), (("did", 1, 0, 0),)))))

    def test_numbers(self):
        for thing in NO_NUMBERS:
            for event in [("joined", thing), ("said", thing, "a"), ("did", thing, 0, 0), ("did", 0, thing, 0),
                          ("did", 0, 0, thing), ("did", 0, 2, thing), ("did", 1, thing, 0), ("did", 1, 0, thing)]:
                self.bad(event)

    def test_forms(self):
        for event in [(), ("joined",), ("joined", 0, 0), ("said", 0), ("said", 0, "a", "b"), ("said", "a", 0),
                      ("did", 0, 0), ("did", 0, 0, 0, 0), ("did", 0), ("did",), ("said",), ("join", 0), ("say", 0, "a"),
                      ("do", 0, 0, 0), ("", 0), ("Joined", 0), (0, "joined"), (b"joined", 0), (None, 0), ([], 0),
                      ({}, 0), (("joined",), 0), ("joined 0",), "joined", ["joined", 0], {"joined": 0},
                      (("joined", 0),), ("left", 0), ("joined", "a")]:
            self.bad(event)

    def test_other_things(self):
        for thing in ANYTHING:
            self.bad(thing)


def town_of(**deals):
    return (0, deals)


class Towns(Checks):
    def test_towns(self):
        self.yes(is_town(TOWN))
        self.yes(is_town((0, {"a": RENT})))
        self.yes(is_town(town_of(bell=RENT, abcdefghijkl=RENT)))

    def test_a_town_without_deals(self):
        self.yes(is_town((0, {})))

    def test_other_things(self):
        for thing in ANYTHING:
            self.no(is_town(thing), thing)
            self.no(is_town((0, {"a": thing})), thing)
            if thing != {}:
                self.no(is_town((0, thing)), thing)
        for thing in [list(TOWN), TOWN[:1], TOWN + (1,), TOWN[::-1], TOWN[1], DEAL, {}, (0, list(TOWN[1].items()))]:
            self.no(is_town(thing), thing)

    def test_span(self):
        for span in [0, 1, HUGE]:
            self.yes(is_town((span, {"a": RENT})))
        for span in NO_NUMBERS:
            self.no(is_town((span, {"a": RENT})), span)
            self.no(is_town((span, {})), span)

    def test_names_of_deals(self):
        for word in NO_WORDS:
            try:
                deals = {"a": RENT, word: RENT}
            except TypeError:
                continue
            self.no(is_town((0, deals)), word)
            self.no(is_town((0, {word: RENT})), word)

    def test_a_bad_deal_anywhere(self):
        bad = at(RENT, (2,), -1)
        for deals in [{"a": bad}, {"a": RENT, "b": bad}, {"a": bad, "b": RENT}]:
            self.no(is_town((0, deals)))

    def test_others_are_there(self):
        asking = deal_of(PLAIN, others=("b",))
        self.no(is_town(town_of(a=asking)))
        self.no(is_town(town_of(a=asking, c=RENT)))
        self.yes(is_town(town_of(a=asking, b=RENT)))
        self.yes(is_town(town_of(b=RENT, a=asking)))
        both = deal_of(PLAIN, others=("b", "c"))
        self.no(is_town(town_of(a=both, b=RENT)))
        self.no(is_town(town_of(a=both, c=RENT)))
        self.yes(is_town(town_of(a=both, b=RENT, c=RENT)))

    def test_others_are_not_the_deal_itself(self):
        asking = deal_of(PLAIN, others=("b",))
        self.no(is_town(town_of(b=asking)))
        self.no(is_town(town_of(b=asking, a=RENT)))
        self.no(is_town(town_of(a=RENT, b=deal_of(PLAIN, others=("a", "b")))))

    def test_others_may_go_round(self):
        one = deal_of(PLAIN, others=("b",))
        other = deal_of(PLAIN, others=("a",))
        self.yes(is_town(town_of(a=one, b=other)))

    def test_did_elsewhere_is_there(self):
        for spot in [(4,), (5,)]:
            for c in range(12):
                for p in range(9):
                    event = ("did", 1, c, p)
                    clause = at(PLAIN, spot, (event,) if spot == (4,) else (event, 1))
                    asking = deal_of(clause, others=("rent",))
                    good = p < {0: 1, 1: 3}.get(c, 0)
                    self.assertIs(is_town(town_of(a=asking, rent=RENT)), good, (spot, event))
                    self.assertIs(is_town(town_of(rent=RENT, a=asking)), good, (spot, event))

    def test_did_elsewhere_is_of_its_own_other(self):
        small = deal_of(PLAIN)
        for k, good in [(1, False), (2, True)]:
            clause = at(PLAIN, (4,), (("did", k, 1, 2),))
            asking = deal_of(clause, others=("small", "rent"))
            self.assertIs(is_town(town_of(a=asking, rent=RENT, small=small)), good)

    def test_a_bad_did_behind_good_ones(self):
        clause = at(PLAIN, (4,), (("joined", 0), ("did", 1, 0, 0), ("did", 1, 0, 1)))
        asking = (("a", "b"), ("rent",), 0, (PLAIN, clause))
        self.no(is_town(town_of(a=asking, rent=RENT)))

    def test_made_towns(self):
        for seed in range(120):
            self.yes(is_town(Maker(seed).town()[0]))


class Ends(unittest.TestCase):
    def test_ends(self):
        self.assertEqual(end_of(DEAL), 49)
        self.assertEqual(end_of(RENT), 7)
        self.assertEqual(end_of(deal_of(PLAIN, close=3)), 4)

    def test_the_greatest_within_wherever_it_stands(self):
        for withins in [(3, 8, 5), (8, 3, 5), (3, 5, 8)]:
            clauses = tuple((0, 1, 9, within, (), (("joined", 0), 50)) for within in withins)
            self.assertEqual(end_of((("a", "b"), (), 10, clauses)), 18)

    def test_long_numbers(self):
        self.assertEqual(end_of(deal_of(at(PLAIN, (3,), 10 ** 29), close=10 ** 29)), 2 * 10 ** 29)


class Kept(unittest.TestCase):
    def test_what_is_handed_in_stays_and_is_told_the_same_again(self):
        for town in [TOWN, (0, {"sale": DEAL}), (0, {"a": [1]})]:
            kept = copy.deepcopy(town)
            first = is_town(town)
            self.assertEqual(town, kept)
            self.assertEqual(list(town[1]), list(kept[1]))
            self.assertIs(is_town(town), first)
        self.assertIs(is_deal(DEAL), is_deal(DEAL))
        self.assertEqual(end_of(DEAL), end_of(DEAL))

    def test_a_list_handed_in_stays(self):
        thing = [[1, 2], {"a": [3]}]
        for ask in [is_word, is_deal, is_town]:
            self.assertIs(ask(thing), False)
            self.assertEqual(thing, [[1, 2], {"a": [3]}])


if __name__ == "__main__":
    unittest.main()
