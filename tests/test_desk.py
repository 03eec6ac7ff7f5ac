import copy
import unittest

from holdword.chains import chain
from holdword.deals import end_of
from holdword.desk import Desk
from holdword.errors import HoldError, NoLetter, NoPile, NoRow, NoTown
from holdword.judges import Judge
from holdword.otherwise import otherwise
from holdword.showing import shown_town
from holdword.standing import standing
from holdword.writing import read_letter, shown_claim, shown_letter
from plain import PileMaker
from samples import ANYTHING, JOIN, SHOWN, claims_on, letter, name

SALE = """span 1
deal sale
houses ann bob cid
close 40
pay: ann to bob 2 parts within 5 if bob said go
ship: bob to cid 1 parts within 9"""
GO = "bob sale 1 at 0: say go"
ONE = "ann sale 1 got bob.sale.1 at 1: join"
TWO = "ann sale 2 after 1 at 2: do 0 1"
FORMS = ["came 5: " + ONE, "told", "why held ann.sale.1 0 6", "unless held ann.sale.1 0 6", "standing 5", "end sale", "cut"]


def state(desk):
    """All that a desk tells of what it has; None ahead of a town."""
    if desk.judge is None:
        return None
    return (desk.judge.town, desk.judge.told(), desk.judge.book())


def desk_with(*rows):
    """A desk with the town of sale, to which the rows were said."""
    desk = Desk()
    desk.say("town\n" + SALE)
    for row in rows:
        desk.say(row)
    return desk


class Desks(unittest.TestCase):
    def refused(self, desk, kind, *rows, at=None):
        """Each row is refused so, and changes nothing."""
        for row in rows:
            before = copy.deepcopy(state(desk))
            with self.assertRaises(kind, msg=repr(row)) as caught:
                desk.say(row)
            self.assertIs(type(caught.exception), kind, row)
            self.assertIsInstance(caught.exception, HoldError)
            self.assertEqual(caught.exception.row, at, row)
            self.assertEqual(state(desk), before)


class Answers(Desks):
    def test_town(self):
        self.assertEqual(Desk().say("town\n" + SALE), "1 deals")
        self.assertEqual(Desk().say("town\n" + SHOWN), "2 deals")
        self.assertEqual(Desk().say("town\nspan 0"), "0 deals")
        self.assertEqual(Desk().say("town\n\n  span  7 \n\n"), "0 deals")

    def test_came(self):
        desk = desk_with()
        self.assertEqual(desk.say("came 5: " + GO), "-")
        self.assertEqual(desk.say("came 5: " + ONE), "held ann.sale.1 0 6")
        self.assertEqual(desk.say("came 5: " + ONE), "-")
        self.assertEqual(desk.say("came 0: " + TWO), "ahead ann.sale.2\nheld ann.sale.2 0 6")
        self.assertEqual(desk.say("came 5: ann sale 3 after 2 at 6: do 0 0"), "kept ann.sale.3 0")
        self.assertEqual(desk.say(f"came {10 ** 29}: cid sale 1 at 0: join"), "-")
        self.assertEqual(desk.say("came 0: " + ONE), "-")
        self.assertEqual(desk.say("came 5: bob sale 4 at 1: do 3 0"), "ill bob.sale.4\ntwin bob.sale.1 bob.sale.4")

    def test_came_again_at_an_earlier_time(self):
        desk = desk_with("came 9: bob sale 1 at 6: note")
        self.assertEqual(desk.say("came 5: bob sale 1 at 6: note"), "-")
        self.assertEqual(desk.say("came 4: bob sale 1 at 6: note"), "ahead bob.sale.1")
        self.assertEqual(desk.say("came 9: bob sale 1 at 6: note"), "-")
        self.assertEqual(desk.judge.book(), {letter("bob", 1, time=6): 4})

    def test_told(self):
        desk = desk_with()
        self.assertEqual(desk.say("told"), "-")
        desk.say("came 5: " + GO)
        self.assertEqual(desk.say("told"), "-")
        desk.say("came 5: " + ONE)
        self.assertEqual(desk.say("told"), "held ann.sale.1 0 6")
        desk.say("came 5: " + TWO)
        desk.say("came 0: " + TWO)
        for turn in range(2):
            self.assertEqual(desk.say("told"), "ahead ann.sale.2\nheld ann.sale.1 0 6\nheld ann.sale.2 0 6")

    def test_why(self):
        desk = desk_with("came 5: " + TWO, "came 5: " + ONE, "came 5: cid sale 1 at 0: join", "came 0: " + GO)
        self.assertEqual(desk.say("why held ann.sale.1 0 6"), ONE + "\n" + GO)
        self.assertEqual(desk.say("why held ann.sale.2 0 6"), "\n".join([ONE, TWO, GO]))
        self.assertEqual(desk.say("why held ann.sale.2 0 7"), "not told")
        self.assertEqual(desk.say("why ill ann.sale.2"), "not told")
        self.assertEqual(desk.say("why ill zed.lost.9"), "not told")
        desk.say("came 0: " + TWO)
        self.assertEqual(desk.say("why ahead ann.sale.2"), TWO)

    def test_unless(self):
        desk = desk_with()
        self.assertEqual(desk.say("unless ill ann.sale.1"), "-")
        for one in (TWO, ONE, GO):
            desk.say("came 5: " + one)
        self.assertEqual(desk.say("unless held ann.sale.1 0 6"), "told")
        self.assertEqual(desk.say("unless ill ann.sale.1"), "\n".join([ONE, TWO, GO]))
        other = desk_with("came 5: " + ONE)
        answer = other.say("unless held ann.sale.1 0 6").split("\n")
        self.assertIn(ONE, answer)
        self.assertGreater(len(answer), 1)
        self.assertEqual(answer, [shown_letter(one) for one in otherwise(
            other.judge.town, [read_letter(ONE)], {}, ("held", name("ann", 1), 0, 6))])

    def test_standing(self):
        desk = desk_with()
        self.assertEqual(desk.say("standing 5"), "-")
        for row in (ONE, GO, "bob sale 2 after 1 at 1: join"):
            desk.say("came 5: " + row)
        self.assertEqual(desk.say("standing 0"), "sale ann 0 held\nsale bob 1 held")
        self.assertEqual(desk.say("standing 7"), "sale ann 0 held\nsale bob 1 held")
        self.assertEqual(desk.say("standing 8"), "sale ann 0 silent\nsale bob 1 held")
        self.assertEqual(desk.say(f"standing {10 ** 29}"), "sale ann 0 silent\nsale bob 1 silent")
        desk.say("came 5: ann sale 2 after 1 at 7: note")
        self.assertEqual(desk.say("standing 7"), "sale ann 0 late\nsale bob 1 held")

    def test_end(self):
        self.assertEqual(desk_with().say("end sale"), "49")
        desk = Desk()
        desk.say("town\n" + SHOWN)
        self.assertEqual((desk.say("end sale"), desk.say("end rent")), ("49", "7"))

    def test_cut(self):
        desk = desk_with()
        self.assertEqual(desk.say("cut"), "ok")
        for row in (ONE, GO, "cid sale 1 at 1: join"):
            desk.say("came 5: " + row)
        self.assertEqual(desk.say("cut"), "ok")
        self.assertEqual(desk.say("told"), "held ann.sale.1 0 6")
        self.assertEqual(set(desk.judge.book()), {read_letter(ONE), read_letter(GO)})
        self.assertEqual(desk.say("came 5: " + TWO), "held ann.sale.2 0 6")
        # The letter that was cut away is there no more, so another one may have its name.
        self.assertEqual(desk.say("came 5: cid sale 1 at 2: note"), "-")

    def test_blanks(self):
        desk = desk_with("  came   5:   " + GO.replace(" ", "  ") + " ", "came 5: " + ONE + "  ")
        for blank in ["", " ", "   "]:
            gap = blank or " "
            self.assertEqual(desk.say(blank + "told" + blank), "held ann.sale.1 0 6")
            self.assertEqual(desk.say(f"{blank}why{gap}held{gap}ann.sale.1{gap}0{gap}6{blank}"), ONE + "\n" + GO)
            self.assertEqual(desk.say(f"{blank}unless{gap}held{gap}ann.sale.1{gap}0{gap}6{blank}"), "told")
            self.assertEqual(desk.say(f"{blank}standing{gap}5{blank}"), "sale ann 0 held")
            self.assertEqual(desk.say(f"{blank}end{gap}sale{blank}"), "49")
            self.assertEqual(desk.say(f"{blank}cut{blank}"), "ok")

    def test_town_again(self):
        desk = desk_with("came 5: " + ONE, "came 5: " + GO)
        self.assertEqual(desk.say("town\n" + SALE), "1 deals")
        self.assertEqual(desk.say("told"), "-")
        self.assertEqual(desk.judge.book(), {})
        self.assertEqual(desk.say("came 5: " + ONE), "-")
        self.assertEqual(desk.say("came 5: bob sale 1 at 1: say go"), "held ann.sale.1 0 6")
        self.assertEqual(desk.say("town\nspan 3"), "0 deals")
        self.refused(desk, NoTown, "end sale")
        self.assertEqual(desk.say("came 5: " + ONE), "-")

    def test_two_desks_side_by_side(self):
        one, two = desk_with(), desk_with()
        one.say("came 5: " + ONE)
        one.say("came 5: " + GO)
        two.say("came 5: bob sale 1 at 1: note")
        self.assertEqual((one.say("told"), two.say("told")), ("held ann.sale.1 0 6", "-"))
        two.say("town\nspan 3")
        self.assertEqual(one.say("end sale"), "49")
        self.refused(Desk(), NoTown, "told")

    def test_same_again(self):
        desk = desk_with("came 5: " + ONE, "came 5: " + GO)
        for row in FORMS[1:-1] + ["unless ill ann.sale.1"]:
            self.assertEqual(desk.say(row), desk.say(row))


class Refusals(Desks):
    NONE = [
        "", " ", "\n", "\n\n", "x", "Told", "TOLD", "told now", "told 5", "told:", "told\n", "\ntold", "tell", "town", "town ",
        "town " + SALE, "town span 3", "Town\n" + SALE, "\ntown\n" + SALE, "towns\n" + SALE, "town 1\n" + SALE, "town:\n" + SALE,
        "came", "came 5", "came 5:", "came 5: ", "came : " + ONE, "came: " + ONE, "came 5 " + ONE, "came 5 : " + ONE,
        "came 5:" + ONE, "came: 5 " + ONE, "came " + ONE, "came:5 " + ONE, "came 5:: " + ONE, "Came 5: " + ONE, "came 5 5: " + ONE,
        "came 5:\n" + ONE, "came\n5: " + ONE, "why", "why ", "why\n", "why\nill ann.sale.1", "Why ill ann.sale.1", "unless", "unless ",
        "unless\nill ann.sale.1", "standing", "standing ", "standing 5 5", "standing now", "standing\n5", "standing 5\n",
        "end", "end ", "end\nsale", "end sale rent", "end sale sale", "cut sale", "cut 5", "cut\n", "cut:", "told told", "cut cut",
        ONE, GO, "held ann.sale.1 0 6", SALE, "-", "ok",
    ]

    def test_no_form(self):
        for desk in [Desk(), desk_with("came 5: " + ONE, "came 5: " + GO)]:
            self.refused(desk, NoRow, *self.NONE)

    def test_anything(self):
        for desk in [Desk(), desk_with("came 5: " + ONE)]:
            self.refused(desk, NoRow, *ANYTHING, b"told", ["told"], ("told",), "told".split(), {"told": 1})

    def test_numbers(self):
        for desk in [Desk(), desk_with("came 5: " + ONE)]:
            for number in ["05", "00", "+5", "-5", "-1", "5.0", "5.", "five", "5a", "1_0", "0x5", "5,", "1 0", "5\n"]:
                self.refused(desk, NoRow, f"came {number}: " + ONE, f"standing {number}")

    def test_ahead_of_a_town(self):
        desk = Desk()
        self.refused(desk, NoTown, *FORMS)
        # What the texts write is looked at only behind that.
        self.refused(desk, NoTown, "came 5: x", "why x", "unless x", "why held ann.sale.1", "end lost", "end Sale", "came 5: " + ONE + "\n")
        self.assertEqual(desk.say("town\n" + SALE), "1 deals")
        for row in FORMS:
            self.assertIsInstance(desk.say(row), str)

    def test_town_refused(self):
        for desk in [Desk(), desk_with("came 5: " + ONE, "came 5: " + GO)]:
            self.refused(desk, NoTown, "town\n", "town\n\n \n", "town\nspan 3\ndeal a", at=None)
            self.refused(desk, NoTown, "town\nspan", "town\nspan 03", "town\ndeal sale", at=1)
            self.refused(desk, NoTown, "town\nspan 3\n\nhouses ann", "town\n\n\nspan", at=3)
            self.refused(desk, NoTown, "town\n" + SALE + "\nship: remind pay within 3", at=7)
        self.refused(Desk(), NoTown, "told")

    def test_texts_refused(self):
        desk = desk_with("came 5: " + ONE, "came 5: " + GO)
        self.refused(desk, NoLetter, "came 5: x", "came 5: " + ONE + " x", "came 5: 5: " + ONE, "came 5: came 5: " + ONE,
                     "came 5: " + ONE + "\n", "came 5: \n", "came 5: ann sale 01 at 0: note", "came 5: held ann.sale.1 0 6",
                     "came 5: bob sale 1 at 0: note: note")
        for word in ("why", "unless"):
            self.refused(desk, NoLetter, f"{word} x", f"{word} {ONE}", f"{word} ill ann.sale.0", f"{word} held ann.sale.1 0",
                         f"{word} ill ann.sale.1\n", f"{word} \n", f"{word} broke ann.sale.1", f"{word} held ann.sale.1 12 6",
                         f"{word} why ill ann.sale.1", f"{word} held ann.sale.1 0 06")

    def test_as_told(self):
        desk = desk_with("came 5: " + ONE, "came 5: " + GO)
        self.refused(desk, NoPile, "came 5: bob sale 1 at 0: say no", "came 0: bob sale 1 after 2 at 0: say go",
                     "came 9: ann sale 1 at 1: join")
        self.refused(desk, NoTown, "end lost", "end ann", "end Sale", "end 5", "end sale:", "end bell")
        self.assertEqual(desk.say("told"), "held ann.sale.1 0 6")


class MadeRows(Desks):
    def test_as_the_judge(self):
        for seed in range(40):
            maker = PileMaker(seed)
            town = maker.town()
            names = {deal: tuple("abcdefgh"[:len(town[1][deal][3])]) for deal in town[1]}
            desk, judge = Desk(), Judge(town)
            self.assertEqual(desk.say("town\n" + shown_town(town, names)), "2 deals")
            for one in maker.some(maker.whole(town, 14), 2):
                time = max(0, one[5] + maker.chance.choice([-3, 0, 2]))
                new = [shown_claim(claim) for claim in judge.come(one, time)]
                self.assertEqual(desk.say(f"came {time}: {shown_letter(one)}"), "\n".join(new) or "-")
                if maker.chance.random() < 0.1:
                    judge.cut()
                    self.assertEqual(desk.say("cut"), "ok")
            book = judge.book()
            asked = (town, list(book), {one[:3]: time for one, time in book.items()})
            self.assertEqual(desk.say("told"), "\n".join([shown_claim(claim) for claim in judge.told()]) or "-")
            for now in (0, 6, 60):
                places = [" ".join([deal, house, str(c), word]) for deal, house, c, word in standing(*asked, now)]
                self.assertEqual(desk.say(f"standing {now}"), "\n".join(places) or "-")
            claims = maker.chance.sample(claims_on([one[:3] for one in book], (0, 1), (3, 6)), 10) if book else []
            for claim in judge.told() + claims:
                links, whole = chain(*asked, claim), otherwise(*asked, claim)
                self.assertEqual(desk.say("why " + shown_claim(claim)),
                                 "not told" if links is None else "\n".join([shown_letter(one) for one in links]))
                self.assertEqual(desk.say("unless " + shown_claim(claim)),
                                 "told" if whole is None else "\n".join([shown_letter(one) for one in whole]) or "-")
            for deal in town[1]:
                self.assertEqual(desk.say(f"end {deal}"), str(end_of(town[1][deal])))

    def test_a_letter_of_each_form(self):
        desk = Desk()
        desk.say("town\nspan 0")
        for one in [letter("ann", 1, deed=JOIN), letter("ann", 2, 1, (name("bob", 1), name("cid", 2)), "rent", ("hand", 0, "bob"), 7)]:
            self.assertEqual(desk.say("came 9: " + shown_letter(one)), "-")
            self.assertIn(shown_letter(one), desk.say("unless ill ann.sale.1").split("\n"))


if __name__ == "__main__":
    unittest.main()
