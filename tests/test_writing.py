import copy
import unittest

from holdword.claims import is_claim
from holdword.errors import HoldError, NoLetter
from holdword.letters import is_letter
from holdword.reading import read
from holdword.writing import read_claim, read_letter, shown_claim, shown_letter
from plain import PileMaker
from samples import ANYTHING, JOIN, NO_CLAIMS, NOTE, claims_on, letter, name

LONG = 10 ** 30 - 1
WORD = "abcdefghijkl"
# Letters, and how each is written.
LETTERS = [
    (letter("ann", 1, time=3, deed=JOIN), "ann sale 1 at 3: join"),
    (letter("ann", 2, 1, time=0, deed=("say", "go")), "ann sale 2 after 1 at 0: say go"),
    (letter("ann", 3, 3, (name("bob", 1),), time=3, deed=("do", 0, 8)), "ann sale 3 after 3 got bob.sale.1 at 3: do 0 8"),
    (letter("bob", 1, 0, (name("ann", 2, "rent"), name("ann", 10), name("bob", 1, "rent")), deed=("free", 11)),
     "bob sale 1 got ann.rent.2 ann.sale.10 bob.rent.1 at 0: free 11"),
    (letter("cid", 7, deed=("ready", 0)), "cid sale 7 at 0: ready 0"),
    (letter("cid", 7, deed=("hand", 3, "to")), "cid sale 7 at 0: hand 3 to to"),
    (letter("cid", 7, deed=("hand", 10, WORD)), "cid sale 7 at 0: hand 10 to abcdefghijkl"),
    (letter("cid", 7, deed=("quit", 1)), "cid sale 7 at 0: quit 1"),
    (letter("bell", 7, 6, time=LONG, deed=NOTE), f"bell sale 7 after 6 at {LONG}: note"),
    (letter(WORD, LONG, LONG - 1, ((WORD, "z", LONG),), WORD, NOTE, 10),
     f"{WORD} {WORD} {LONG} after {LONG - 1} got {WORD}.z.{LONG} at 10: note"),
    # Words that stand elsewhere in the row are words for houses and deals, too.
    (letter("after", 1, 2, (("at", "got", 1),), "got", ("say", "at"), 5), "after got 1 after 2 got at.got.1 at 5: say at"),
    (letter("at", 1, 0, (("got", "at", 1),), "at", ("say", "span")), "at at 1 got got.at.1 at 0: say span"),
]
CLAIMS = [
    (("held", name("ann", 1), 0, 6), "held ann.sale.1 0 6"),
    (("held", name("ann", LONG), 11, 2 * LONG), f"held ann.sale.{LONG} 11 {2 * LONG}"),
    (("held", name("ann", 1), 0, 0), "held ann.sale.1 0 0"),
    (("kept", name("bob", 10), 1), "kept bob.sale.10 1"),
    (("late", name("held", 1, "late"), 2), "late held.late.1 2"),
    (("ill", name("ann", 1)), "ill ann.sale.1"),
    (("back", name("ann", 1)), "back ann.sale.1"),
    (("twin", name("ann", 1), name("ann", 2)), "twin ann.sale.1 ann.sale.2"),
    (("loose", name(WORD, 1, WORD)), f"loose {WORD}.{WORD}.1"),
    (("behind", name("bell", 1)), "behind bell.sale.1"),
    (("ahead", name("ann", 1)), "ahead ann.sale.1"),
]


def spread(text):
    """The same words with more blanks."""
    return ["  " + text, text + " ", text.replace(" ", "  "), "   " + text.replace(" ", "     ") + "  "]


class Refusing(unittest.TestCase):
    def refused(self, reads, *things):
        for thing in things:
            with self.assertRaises(NoLetter, msg=repr(thing)) as caught:
                reads(thing)
            self.assertIsNone(caught.exception.row)
            self.assertIsInstance(caught.exception, HoldError)


class Letters(Refusing):
    def test_each_form(self):
        for one, text in LETTERS:
            self.assertTrue(is_letter(one), text)
            self.assertEqual(shown_letter(one), text)
            self.assertEqual(read_letter(text), one)
            for more in spread(text):
                self.assertEqual(read_letter(more), one)

    def test_thirty_names(self):
        gots = tuple(sorted((house, deal, nr) for house in ("bob", WORD) for deal in ("rent", "sale", "z")
                            for nr in (1, 2, 10, 100, LONG)))
        one = letter("ann", 1, 0, gots)
        self.assertEqual(len(gots), 30)
        text = shown_letter(one)
        self.assertEqual(text, "ann sale 1 got " + " ".join(f"{house}.{deal}.{nr}" for house, deal, nr in gots) + " at 0: note")
        self.assertEqual(read_letter(text), one)
        self.refused(read_letter, text.replace(" at ", " z.z.1 at "))

    def test_kinds(self):
        found = read_letter("ann sale 3 after 3 got bob.sale.1 at 3: do 0 8")
        self.assertEqual([type(part) for part in found], [str, str, int, int, tuple, int, tuple])
        self.assertEqual([type(part) for part in found[4][0]], [str, str, int])
        self.assertEqual([type(part) for part in found[6]], [str, int, int])

    def test_made_letters(self):
        for seed in range(40):
            maker = PileMaker(seed)
            for one in maker.whole(maker.town(), 16):
                text = shown_letter(one)
                self.assertEqual(read_letter(text), one)
                self.assertEqual(shown_letter(read_letter(text)), text)
                for more in spread(text):
                    self.assertEqual(read_letter(more), one)

    WHOLE = "ann sale 3 after 2 got bob.sale.1 cid.sale.2 at 3: do 0 8"

    def test_parts_missing_doubled_or_out_of_their_places(self):
        words = self.WHOLE.split()
        self.assertTrue(is_letter(read_letter(self.WHOLE)))
        for at, word in enumerate(words):
            fewer = " ".join(words[:at] + words[at + 1:])
            if word not in ("bob.sale.1", "cid.sale.2"):
                self.refused(read_letter, fewer)
            self.refused(read_letter, " ".join(words[:at] + [word] + words[at:]))
            if at:
                self.refused(read_letter, " ".join(words[:at - 1] + [word, words[at - 1]] + words[at + 1:])
                             if words[at - 1:at + 1] not in (["ann", "sale"], ["0", "8"]) else "")
        self.refused(read_letter, "ann sale 3 got bob.sale.1 after 2 at 3: note", "ann sale 3 at 3: note after 2",
                     "ann sale 3 at 3: after 2 note", "ann sale 3 after 2 after 2 at 3: note",
                     "ann sale 3 got bob.sale.1 got cid.sale.2 at 3: note", "ann sale 3 at 3: at 3: note",
                     "ann sale 3 got at 3: note", "ann sale 3 after at 3: note", "ann sale 3 after 2 got at 3: note",
                     "ann sale 3 at 3:", "ann sale 3 at 3", "ann sale 3", "ann sale", "ann", "", " ", "at 3: note",
                     "ann sale 3 note", "ann sale 3: note", "ann sale 3 got bob.sale.1", "ann sale 3 got", "ann sale 3 after",
                     "ann sale 3 after 2", "ann sale 3 at", "ann sale 3 got bob.sale.1 note", "ann sale 3 at : note")

    def test_colons(self):
        self.refused(read_letter, "ann sale 3 at 3 note", "ann sale 3 at 33 note", "ann sale 3 at 3; note", "ann sale 3 at 3 : note", "ann sale 3 at 3:note",
                     "ann sale 3 at 3:: note", "ann sale 3 at: 3 note", "ann sale 3: at 3: note", "ann sale 3 at 3: note:",
                     "ann sale 3 at :3 note", "ann: sale 3 at 3: note")

    def test_numbers(self):
        for number in ["03", "00", "+3", "-3", "-1", "3.0", "3.", "0x3", "three", "3a", "1_0", "", "1,000", "e", "\n3", "3\n"]:
            self.refused(read_letter, f"ann sale {number} at 3: note", f"ann sale 3 after {number} at 3: note",
                         f"ann sale 3 at {number}: note", f"ann sale 3 at 3: do {number} 0",
                         f"ann sale 3 at 3: do 0 {number}", f"ann sale 3 at 3: free {number}",
                         f"ann sale 3 at 3: hand {number} to bob", f"ann sale 3 got bob.sale.{number} at 3: note")

    def test_bounds(self):
        self.refused(read_letter, "ann sale 0 at 3: note", "ann sale 1 got bob.sale.0 at 3: note",
                     "ann sale 1 at 3: do 12 0", "ann sale 1 at 3: do 0 9", "ann sale 1 at 3: free 12",
                     "ann sale 1 at 3: ready 12", "ann sale 1 at 3: quit 12", "ann sale 1 at 3: hand 12 to bob",
                     f"ann sale 1 at 3: do {LONG} 0")
        for text in ["ann sale 1 at 3: do 11 8", "ann sale 1 at 3: quit 11", "ann sale 1 at 3: hand 11 to bob"]:
            self.assertEqual(shown_letter(read_letter(text)), text)
        # That a letter follows on none is written by leaving it out.
        self.refused(read_letter, "ann sale 1 after 0 at 3: note")

    def test_words_of_the_form(self):
        for text in ["ann sale 3 by 3: note", "ann sale 3 behind 2 at 3: note", "ann sale 3 gets bob.sale.1 at 3: note",
                     "ann sale 3 After 2 at 3: note", "ann sale 3 got bob.sale.1 by 3: note", "ann sale 3 after 2 by 3: note",
                     "ann sale 3 AT 3: note", "ann sale 3 to 3: note", "ann sale 3 5 3: note"]:
            self.refused(read_letter, text)

    def test_words(self):
        for word in ["Ann", "a1", "abcdefghijklm", "a.b", "a:", "5", "a_b", "-", "ann\n", "\nann", "a\tb"]:
            self.refused(read_letter, f"{word} sale 1 at 3: note", f"ann {word} 1 at 3: note",
                         f"ann sale 1 at 3: say {word}", f"ann sale 1 at 3: hand 0 to {word}",
                         f"ann sale 1 got {word}.sale.1 at 3: note", f"ann sale 1 got bob.{word}.1 at 3: note")
        self.refused(read_letter, "ann sale 1 at 3: hand 0 to bell")
        self.assertEqual(read_letter("bell sale 1 at 3: say bell"), letter("bell", 1, time=3, deed=("say", "bell")))

    def test_names(self):
        for names in ["ann.sale.1", "ann.sale.4", "bob.sale.1 bob.sale.1", "bob.sale.2 bob.sale.1", "cid.sale.1 bob.sale.1",
                      "bob.sale.10 bob.sale.9", "bob.sale", "bob", "bob.sale.1.1", "bob.sale.", ".sale.1", "bob..1", "...", "..1",
                      "bob.sale.1,", "bob.sale .1", "bob sale 1", "bob.sale.1 ann.rent.1", "bob:sale:1"]:
            self.refused(read_letter, f"ann sale 3 got {names} at 3: note")
        for names in ["ann.rent.1 bob.sale.1", "bob.sale.9 bob.sale.10", "bob.rent.2 bob.sale.1"]:
            self.assertEqual(shown_letter(read_letter(f"ann sale 3 got {names} at 3: note")), f"ann sale 3 got {names} at 3: note")

    def test_deeds(self):
        for deed in ["", "Join", "join join", "join 0", "say", "say a b", "say 0", "do", "do 0", "do 0 0 0", "do a 0", "do 0 a",
                     "free", "free 0 0", "free a", "ready", "ready 0 0", "hand", "hand 0", "hand 0 to", "hand 0 bob", "hand to bob",
                     "hand 0 to bob to", "hand bob to 0", "hand 0 at bob", "hand 0 to bob cid", "hand to 0 bob", "quit", "quit 0 0", "note 0",
                     "leave", "broke 0", "joined", "after", "join:", "do 0,0"]:
            self.refused(read_letter, f"ann sale 3 at 3: {deed}")

    def test_line_feeds(self):
        for one, text in LETTERS:
            self.refused(read_letter, text + "\n", "\n" + text, text.replace(" ", "\n"), text.replace(" ", "\n", 1),
                         text.replace(": ", ":\n"), text + "\n" + text, text.replace(" at ", "\n at "))

    def test_anything(self):
        self.refused(read_letter, *ANYTHING, letter("ann", 1), [self.WHOLE], (self.WHOLE,), self.WHOLE.encode(), "\n", "~", "!",
                     "ann.sale.1", "held ann.sale.1 0 6")


class Claims(Refusing):
    def test_each_form(self):
        for claim, text in CLAIMS:
            self.assertTrue(is_claim(claim), text)
            self.assertEqual(shown_claim(claim), text)
            self.assertEqual(read_claim(text), claim)
            for more in spread(text):
                self.assertEqual(read_claim(more), claim)

    def test_all_claims_by_their_form(self):
        for claim in claims_on([name("ann", 1), name("bob", LONG, "rent")], range(12), (0, 6, LONG)):
            self.assertEqual(read_claim(shown_claim(claim)), claim)

    def test_made_claims(self):
        for seed in range(30):
            maker = PileMaker(seed)
            town = maker.town()
            pile = maker.whole(town, 16)
            for claim in read(town, pile, maker.comings(pile)):
                self.assertEqual(read_claim(shown_claim(claim)), claim)

    def test_kinds(self):
        found = read_claim("held ann.sale.1 0 6")
        self.assertEqual([type(part) for part in found], [str, tuple, int, int])
        self.assertEqual([type(part) for part in found[1]], [str, str, int])

    def test_parts_missing_doubled_or_out_of_their_places(self):
        for claim, text in CLAIMS:
            words = text.split()
            for at, word in enumerate(words):
                self.refused(read_claim, " ".join(words[:at] + words[at + 1:]), " ".join(words[:at] + [word] + words[at:]))
            self.refused(read_claim, " ".join(words[1:] + words[:1]), text + " 0 0 0", text + " to", text + ":")
        self.refused(read_claim, "", " ", "held", "held 0 6 ann.sale.1", "held 0 ann.sale.1 6", "kept 0 ann.sale.1", "ill ann",
                     "held ann.sale.1 0", "held ann.sale.1", "kept ann.sale.1", "kept ann.sale.1 0 6", "ill ann.sale.1 0",
                     "twin ann.sale.1", "twin ann.sale.1 0", "twin ann.sale.1 ann.sale.2 ann.sale.3", "ill 0", "ill ann sale 1")

    def test_words_that_are_none(self):
        for word in ["Held", "hold", "held:", "broke", "join", "told", "", "0", "silent", "ann.sale.1", "held\n"]:
            self.refused(read_claim, f"{word} ann.sale.1 0 6", f"{word} ann.sale.1")

    def test_numbers_and_names(self):
        for number in ["06", "00", "+6", "-6", "-1", "6.0", "six", "6a", "1_0", "6\n", "", "6:"]:
            self.refused(read_claim, f"held ann.sale.1 0 {number}", f"held ann.sale.1 {number} 6", f"ill ann.sale.{number}")
        self.refused(read_claim, "held ann.sale.1 12 6", "kept ann.sale.1 12", "late ann.sale.1 12", "ill ann.sale.0")
        for own in ["ann.sale", "ann", "ann.sale.1.1", ".sale.1", "ann..1", "Ann.sale.1", "ann.Sale.1", "a1.sale.1", "ann.sale.",
                    "abcdefghijklm.sale.1", "ann:sale:1", "..", "..."]:
            self.refused(read_claim, f"ill {own}", f"held {own} 0 6", f"twin ann.sale.1 {own}")

    def test_line_feeds(self):
        for claim, text in CLAIMS:
            self.refused(read_claim, text + "\n", "\n" + text, text.replace(" ", "\n"), text + "\n" + text)

    def test_anything(self):
        self.refused(read_claim, *ANYTHING, *NO_CLAIMS, ("ill", name("ann", 1)), b"ill ann.sale.1", ["ill ann.sale.1"], "\n", "~",
                     "ann sale 1 at 3: join")


class OwnThings(unittest.TestCase):
    def test_what_is_handed_in_stays(self):
        given = copy.deepcopy((LETTERS, CLAIMS))
        for turn in range(2):
            for one, text in LETTERS:
                self.assertEqual((shown_letter(one), read_letter(text)), (text, one))
            for claim, text in CLAIMS:
                self.assertEqual((shown_claim(claim), read_claim(text)), (text, claim))
        self.assertEqual((LETTERS, CLAIMS), given)


if __name__ == "__main__":
    unittest.main()
