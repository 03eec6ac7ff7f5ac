import copy
import unittest

from holdword.claims import in_order, is_claim, is_mark, names_in
from samples import ANYTHING, Checks, NO_NUMBERS, NO_WORDS

NAME = ("ann", "sale", 1)
OTHER = ("bob", "rent", 2)
ALONE = ["ill", "back", "loose", "behind", "ahead"]
CLAIMS = ([("held", NAME, 0, 0), ("held", NAME, 11, 10 ** 29), ("kept", NAME, 0), ("kept", NAME, 11), ("late", NAME, 0),
           ("late", NAME, 11), ("twin", NAME, ("ann", "sale", 2))] + [(word, NAME) for word in ALONE])


class Forms(Checks):
    def test_claims(self):
        for claim in CLAIMS:
            self.yes(is_claim(claim), claim)

    def test_names_are_of_any_house_and_deal(self):
        for own in [("bell", "sale", 1), ("zz", "nowhere", 10 ** 29), ("abcdefghijkl", "a", 7)]:
            for claim in [("held", own, 3, 4), ("kept", own, 3), ("late", own, 3), ("twin", own, OTHER),
                          ("twin", OTHER, own)] + [(word, own) for word in ALONE]:
                self.yes(is_claim(claim), claim)

    def test_anything(self):
        for thing in ANYTHING:
            self.no(is_claim(thing), thing)
            for claim in CLAIMS:
                self.no(is_claim((thing,) + claim[1:]), (claim, thing))
                self.no(is_claim(claim + (thing,)), (claim, thing))
                if type(thing) is not int and thing != ("a", "b", 1):
                    for place in range(1, len(claim)):
                        self.no(is_claim(claim[:place] + (thing,) + claim[place + 1:]), (claim, place, thing))

    def test_too_few(self):
        for claim in CLAIMS:
            for many in range(len(claim)):
                self.no(is_claim(claim[:many]), claim[:many])
            self.no(is_claim(list(claim)))
            self.no(is_claim([claim]))
            self.no(is_claim((claim,)))

    def test_other_words(self):
        for word in ["", "Held", "hold", "held ", "broken", "silent", "hel", b"ill", "join", "note"]:
            for claim in CLAIMS:
                self.no(is_claim((word,) + claim[1:]), word)

    def test_forms_of_other_words(self):
        for claim in [("held", NAME), ("held", NAME, 0), ("kept", NAME), ("kept", NAME, 0, 5), ("late", NAME),
                      ("late", NAME, 0, 5), ("twin", NAME), ("twin", NAME, 0), ("twin", NAME, OTHER, OTHER),
                      ("ill", NAME, 0), ("ill", NAME, OTHER), ("kept", NAME, OTHER), ("held", NAME, OTHER, 3)]:
            self.no(is_claim(claim), claim)

    def test_names(self):
        for word in NO_WORDS:
            for own in [(word, "sale", 1), ("ann", word, 1)]:
                for claim in [("ill", own), ("twin", own, NAME), ("twin", NAME, own), ("held", own, 0, 0), ("kept", own, 0)]:
                    self.no(is_claim(claim), claim)
        for nr in NO_NUMBERS + [0]:
            for claim in [("back", ("ann", "sale", nr)), ("late", ("ann", "sale", nr), 0)]:
                self.no(is_claim(claim), claim)
        for own in [("ann", "sale"), ("ann", "sale", 1, 0), ["ann", "sale", 1], "ann.sale.1"]:
            self.no(is_claim(("loose", own)), own)

    def test_numbers(self):
        for number in NO_NUMBERS:
            for claim in [("held", NAME, number, 0), ("held", NAME, 0, number), ("kept", NAME, number), ("late", NAME, number)]:
                self.no(is_claim(claim), claim)
        for word in ["kept", "late"]:
            self.yes(is_claim((word, NAME, 11)))
            self.no(is_claim((word, NAME, 12)))
        self.yes(is_claim(("held", NAME, 11, 0)))
        self.no(is_claim(("held", NAME, 12, 0)))


class Parts(unittest.TestCase):
    def test_marks(self):
        told = [claim[0] for claim in CLAIMS if is_mark(claim)]
        self.assertEqual(sorted(told), ["ahead", "back", "behind", "loose", "twin"])

    def test_names(self):
        for claim in CLAIMS:
            self.assertEqual(names_in(claim), [NAME, ("ann", "sale", 2)] if claim[0] == "twin" else [NAME])

    def test_in_order(self):
        given = [("late", NAME, 3), ("held", NAME, 2, 10), ("ill", NAME), ("held", NAME, 2, 9), ("ill", NAME),
                 ("held", NAME, 10, 1), ("twin", NAME, OTHER), ("back", OTHER), ("back", NAME)]
        kept = copy.deepcopy(given)
        told = in_order(given)
        self.assertEqual(told, [("back", NAME), ("back", OTHER), ("held", NAME, 2, 9), ("held", NAME, 2, 10),
                                ("held", NAME, 10, 1), ("ill", NAME), ("late", NAME, 3), ("twin", NAME, OTHER)])
        self.assertEqual(given, kept)
        self.assertEqual(in_order([]), [])


if __name__ == "__main__":
    unittest.main()
