import unittest

from holdword.letters import is_deed, is_letter, name_of
from samples import ANYTHING, Checks, NO_NUMBERS, NO_WORDS, at

GOOD = ["a", "bell", "abcdefghijkl", "deal"]

LETTER = ("ann", "sale", 3, 2, (("bob", "sale", 1), ("cid", "rent", 7)), 12, ("do", 1, 0))


class Deeds(Checks):
    def test_each_form(self):
        for deed in [("join",), ("say", "go"), ("do", 0, 0), ("free", 0), ("ready", 0), ("hand", 0, "bob"),
                     ("quit", 0), ("note",)]:
            self.yes(is_deed(deed), deed)
            self.no(is_deed(deed[:-1]), deed)
            self.no(is_deed(list(deed)), deed)
            for more in [(0,), ("a",), (None,), (0, 0)]:
                if deed + more not in [("say", "go"), ("do", 0, 0), ("hand", 0, "bob")]:
                    self.no(is_deed(deed + more), deed + more)

    def test_forms_take_no_others_parts(self):
        parts = [(), ("go",), (0,), (0, 0), (0, "bob"), (0, 0, 0), ("bob", 0), ("go", "go")]
        good = {"join": (), "say": ("go",), "do": (0, 0), "free": (0,), "ready": (0,), "hand": (0, "bob"),
                "quit": (0,), "note": ()}
        for word, own in good.items():
            for rest in parts:
                self.assertIs(is_deed((word,) + rest), rest == own, (word, rest))

    def test_clauses(self):
        for word, rest in [("do", (0,)), ("free", ()), ("ready", ()), ("hand", ("bob",)), ("quit", ())]:
            for c in range(-2, 15):
                self.assertIs(is_deed((word, c) + rest), 0 <= c <= 11, (word, c))
            for c in NO_NUMBERS:
                self.no(is_deed((word, c) + rest), (word, c))

    def test_parts(self):
        for c in [0, 11]:
            for p in range(-2, 12):
                self.assertIs(is_deed(("do", c, p)), 0 <= p <= 8, p)
        for p in NO_NUMBERS:
            self.no(is_deed(("do", 0, p)), p)

    def test_words(self):
        for word in GOOD:
            self.yes(is_deed(("say", word)))
        for word in NO_WORDS:
            self.no(is_deed(("say", word)), word)

    def test_houses(self):
        for house in ["a", "bells", "abcdefghijkl"]:
            self.yes(is_deed(("hand", 0, house)))
        for house in NO_WORDS + ["bell"]:
            self.no(is_deed(("hand", 0, house)), house)

    def test_other_things(self):
        for thing in ANYTHING:
            self.no(is_deed(thing), thing)
            self.no(is_deed((thing,)), thing)
            self.no(is_deed((thing, 0)), thing)
            self.no(is_deed(("note", thing)), thing)
        for thing in ["join", "note", ["join"], ("joined",), ("Join",), ("",), ("said", "a"), ("did", 0, 0), (b"join",),
                      (None,), ({},), ([], 0), ("give", 0), {"join": 0}, (("join",),), ("join", ())]:
            self.no(is_deed(thing), thing)


class Letters(Checks):
    def test_letters(self):
        self.yes(is_letter(LETTER))
        self.yes(is_letter(("a", "b", 1, 0, (), 0, ("join",))))
        self.yes(is_letter(("bell", "bell", 1, 0, (("bell", "a", 1),), 0, ("note",))))
        for deed in [("join",), ("say", "a"), ("do", 11, 8), ("free", 1), ("ready", 1), ("hand", 1, "a"), ("quit", 1),
                     ("note",)]:
            self.yes(is_letter(at(LETTER, (6,), deed)))

    def test_too_few_too_many_and_lists(self):
        self.no(is_letter(LETTER[:6]))
        self.no(is_letter(LETTER[1:]))
        self.no(is_letter(LETTER + (0,)))
        self.no(is_letter(list(LETTER)))
        self.no(is_letter(LETTER[:3]))
        for path in [(4,), (4, 0), (6,)]:
            thing = LETTER
            for place in path:
                thing = thing[place]
            self.no(is_letter(at(LETTER, path, list(thing))), path)

    def test_other_things(self):
        for thing in ANYTHING:
            self.no(is_letter(thing), thing)
            number = isinstance(thing, int) and not isinstance(thing, bool)
            for place in [0, 1, 6]:
                self.no(is_letter(at(LETTER, (place,), thing)), (place, thing))
            if thing != ("a", "b", 1):
                self.no(is_letter(at(LETTER, (4, 0), thing)), thing)
            if not number:
                for place in [2, 3, 5]:
                    self.no(is_letter(at(LETTER, (place,), thing)), (place, thing))
            if thing != ():
                self.no(is_letter(at(LETTER, (4,), thing)), thing)

    def test_houses_and_deals(self):
        for place in [0, 1]:
            for word in GOOD:
                self.yes(is_letter(at(LETTER, (place,), word)))
            for word in NO_WORDS:
                self.no(is_letter(at(LETTER, (place,), word)), word)

    def test_numbers(self):
        for place, least in [(2, 1), (3, 0), (5, 0)]:
            for number in [least, least + 1, 10 ** 30 - 1]:
                self.yes(is_letter(at(LETTER, (place,), number)), (place, number))
            for thing in NO_NUMBERS + [least - 1]:
                self.no(is_letter(at(LETTER, (place,), thing)), (place, thing))

    def test_prev_may_be_any_number(self):
        for prev in [0, 1, 2, 3, 4, 100]:
            self.yes(is_letter(at(LETTER, (3,), prev)))

    def gots(self, *names):
        return at(LETTER, (4,), names)

    def test_names_got(self):
        for name in [("bob", "sale", 1), ("ann", "rent", 3), ("bell", "sale", 1), ("ann", "salt", 1)]:
            self.yes(is_letter(self.gots(name)), name)
        for name in [("bob", "sale"), ("bob", "sale", 0), ("bob", "sale", True), ("bob", "sale", -1),
                     ("bob", "sale", "1"), ("bob", "", 1), ("", "sale", 1), ("Bob", "sale", 1), ("bob", "sale", 1, 0),
                     ["bob", "sale", 1], ("bob", None, 1), (None, "sale", 1), "bob", None, 1, (), ("bob", "sale", None),
                     ("bob", "sale", [1]), (["bob"], "sale", 1)]:
            self.no(is_letter(self.gots(name)), name)
            self.no(is_letter(self.gots(("aaa", "sale", 1), name)), name)

    def test_names_got_are_of_no_own_row(self):
        for nr in [1, 2, 3, 4]:
            self.no(is_letter(self.gots(("ann", "sale", nr))))
            self.no(is_letter(self.gots(("aaa", "sale", 1), ("ann", "sale", nr), ("bob", "sale", 1))))

    def test_names_got_rise(self):
        for low, high in [(("a", "a", 1), ("a", "a", 2)), (("a", "a", 9), ("a", "a", 10)), (("a", "a", 5), ("a", "b", 1)),
                          (("a", "b", 5), ("b", "a", 1)), (("ab", "a", 1), ("b", "a", 1))]:
            self.yes(is_letter(self.gots(low, high)))
            self.no(is_letter(self.gots(high, low)))
            self.no(is_letter(self.gots(low, low)))
            self.no(is_letter(self.gots(low, high, high)))
            self.no(is_letter(self.gots(low, low, high)))

    def test_how_many_names_got(self):
        for many in [0, 1, 29, 30, 31, 32]:
            names = [("bob", "sale", nr) for nr in range(1, many + 1)]
            self.assertIs(is_letter(self.gots(*names)), many <= 30, many)

    def test_kept_and_told_again(self):
        thing = ["ann", "sale", 1, 0, [], 0, ["join"]]
        for turn in range(2):
            self.no(is_letter(thing))
            self.no(is_deed(thing))
            self.assertEqual(thing, ["ann", "sale", 1, 0, [], 0, ["join"]])
            self.yes(is_letter(LETTER))


class Names(unittest.TestCase):
    def test_names(self):
        self.assertEqual(name_of(LETTER), ("ann", "sale", 3))
        self.assertIs(type(name_of(LETTER)), tuple)
        self.assertEqual(name_of(("bell", "a", 9, 0, (), 0, ("note",))), ("bell", "a", 9))


if __name__ == "__main__":
    unittest.main()
