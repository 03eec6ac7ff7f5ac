import copy
import unittest

from holdword.showing import shown_town
from samples import NAMES, PLAIN, RENT, SHOWN, TOWN, at


def rows_of(town, names):
    """The words of each row that has one: blanks and empty rows tell nothing."""
    return [line.split() for line in shown_town(town, names).split("\n") if line.split()]


def shown_clause(clause, houses=("ann", "bob"), others=()):
    deals = {"sale": (houses, others, 4, (clause, (0, 1, 9, 1, (), ())))}
    for other in others:
        deals[other] = RENT
    names = {name: ("one", "two") for name in deals}
    return " ".join(rows_of((0, deals), names)[5 if others else 4])


class Shown(unittest.TestCase):
    def test_a_town(self):
        self.assertEqual(rows_of(TOWN, NAMES), [line.split() for line in SHOWN.split("\n")])

    def test_it_is_a_text(self):
        self.assertIsInstance(shown_town(TOWN, NAMES), str)

    def test_a_town_without_deals(self):
        self.assertEqual(rows_of((0, {}), {}), [["span", "0"]])
        self.assertEqual(rows_of((12, {}), {}), [["span", "12"]])

    def test_others_are_left_out_where_there_are_none(self):
        rows = rows_of((1, {"rent": RENT}), {"rent": ("key", "coin")})
        self.assertEqual([words[0] for words in rows], ["span", "deal", "houses", "close", "key:", "coin:"])

    def test_several_others(self):
        deals = {"a": (("x", "y"), ("c", "b"), 2, (PLAIN,)), "b": RENT, "c": RENT}
        rows = rows_of((1, deals), {"a": ("n",), "b": ("n", "m"), "c": ("k", "l")})
        self.assertEqual(rows[1:5], [["deal", "a"], ["houses", "x", "y"], ["others", "c", "b"], ["close", "2"]])

    def test_a_plain_clause(self):
        self.assertEqual(shown_clause((1, 0, 3, 8, (), ())), "one: bob to ann 3 parts within 8")

    def test_conds(self):
        head = "one: ann to bob 1 parts within 1 "
        for conds, text in [
            ((("joined", 1),), "if bob joined"),
            ((("said", 0, "bell"),), "if ann said bell"),
            ((("did", 0, 1, 0),), "if did two 1"),
            ((("did", 0, 1, 8),), "if did two 9"),
            ((("said", 1, "go"), ("joined", 0)), "if bob said go and ann joined"),
            ((("joined", 0), ("joined", 1), ("did", 0, 1, 4)), "if ann joined and bob joined and did two 5"),
        ]:
            self.assertEqual(shown_clause(at(PLAIN, (4,), conds)), head + text)

    def test_conds_of_other_deals(self):
        conds = (("did", 1, 1, 2), ("did", 2, 0, 0), ("did", 0, 1, 1))
        text = "one: ann to bob 1 parts within 1 if did fee.two 3 and did rent.one 1 and did two 2"
        self.assertEqual(shown_clause(at(PLAIN, (4,), conds), others=("fee", "rent")), text)

    def test_leave(self):
        head = "one: ann to bob 1 parts within 1 "
        for event, text in [(("joined", 0), "ann joined"), (("said", 1, "no"), "bob said no"),
                            (("did", 0, 1, 0), "did two 1")]:
            shown = shown_clause(at(PLAIN, (5,), (event, 6)))
            self.assertEqual(shown, head + "leave after 6 unless " + text)
        shown = shown_clause(at(PLAIN, (5,), (("did", 1, 1, 2), 1)), others=("rent",))
        self.assertEqual(shown, head + "leave after 1 unless did rent.two 3")

    def test_conds_and_leave(self):
        clause = (0, 1, 1, 1, (("joined", 1),), (("joined", 0), 7))
        text = "one: ann to bob 1 parts within 1 if bob joined leave after 7 unless ann joined"
        self.assertEqual(shown_clause(clause), text)

    def test_names_are_those_of_the_deal(self):
        deals = {"a": RENT, "b": RENT}
        rows = rows_of((0, deals), {"b": ("p", "q"), "a": ("q", "p")})
        self.assertEqual([words[0] for words in rows if words[0][-1] == ":"], ["q:", "p:", "p:", "q:"])

    def test_long_numbers(self):
        long = 10 ** 29 + 7
        clause = (0, 1, 1, long, (), (("joined", 0), long))
        rows = rows_of((long, {"a": (("x", "y"), (), long, (clause,))}), {"a": ("n",)})
        self.assertEqual(rows[0], ["span", str(long)])
        self.assertEqual(rows[3], ["close", str(long)])
        self.assertEqual(" ".join(rows[4]), f"n: x to y 1 parts within {long} leave after {long} unless x joined")

    def test_what_is_handed_in_stays_and_is_shown_the_same_again(self):
        town = copy.deepcopy(TOWN)
        names = copy.deepcopy(NAMES)
        first = shown_town(town, names)
        self.assertEqual((town, names), (TOWN, NAMES))
        self.assertEqual(shown_town(town, names), first)


if __name__ == "__main__":
    unittest.main()
