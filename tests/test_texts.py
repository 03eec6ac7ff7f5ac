import copy
import unittest

from holdword.deals import is_town
from holdword.errors import NoTown
from holdword.showing import shown_town
from holdword.texts import read_town
from samples import ANYTHING, Maker, NAMES, SHOWN, TOWN

ROW_WORDS = """span deal houses others close to parts within if and leave after unless joined said did asks offers
remind stands for""".split()

HEAD = ["span 3", "deal sale", "houses ann bob cid", "close 40"]
FIRST = "pay: ann to bob 2 parts within 5"
NO_NAMES = ["Ann", "a1", "1", "a.b", "a,", "a:", "-", "abcdefghijklm", "ann-bob"] + ROW_WORDS
NO_NUMBERS = ["x", "-1", "+1", "1x", "01", "00", "1.", "1,0", "1_0", "0x1", "one", "()", "007", "span"]


def clause_of(row, head=HEAD):
    """The clause that a row writes as the second one of a deal of ann, bob and cid."""
    (span, deals), names = read_town("\n".join(head + [FIRST, row]))
    return deals["sale"][3][1]


class Asking(unittest.TestCase):
    def refused(self, text, row):
        with self.assertRaises(NoTown, msg=repr(text)) as caught:
            read_town(text)
        self.assertIs(type(caught.exception), NoTown)
        self.assertEqual(caught.exception.row, row, text)

    def refused_rows(self, rows, row):
        self.refused("\n".join(rows), row)


class Read(Asking):
    def test_a_town(self):
        self.assertEqual(read_town(SHOWN), (TOWN, NAMES))

    def test_kinds(self):
        told = read_town(SHOWN)
        self.assertIs(type(told), tuple)
        town, names = told
        self.assertTrue(is_town(town))
        self.assertIs(type(town), tuple)
        self.assertIs(type(names), dict)
        self.assertEqual(list(names), ["sale", "rent"])
        self.assertEqual(list(town[1]), ["sale", "rent"])
        for words in names.values():
            self.assertIs(type(words), tuple)

    def test_a_town_without_deals(self):
        for text in ["span 0", "span 0\n", "\n\nspan 0", "  span   0  ", "\n \n   span 0\n  \n\n"]:
            self.assertEqual(read_town(text), ((0, {}), {}))

    def test_blanks(self):
        rows = ["  " + line.replace(" ", "    ") + "   " for line in SHOWN.split("\n")]
        self.assertEqual(read_town("\n".join(rows)), (TOWN, NAMES))

    def test_rows_without_a_word(self):
        text = "\n" + SHOWN.replace("\n", "\n\n   \n") + "\n\n"
        self.assertEqual(read_town(text), (TOWN, NAMES))

    def test_numbers(self):
        for number in [0, 1, 9, 10, 100, 10 ** 29, 10 ** 30 - 1]:
            self.assertEqual(read_town(f"span {number}"), ((number, {}), {}))
            head = HEAD[:3] + [f"close {number}"]
            self.assertEqual(read_town("\n".join(head + [FIRST]))[0][1]["sale"][2], number)
            if number:
                clause = clause_of(f"x: ann to bob 1 parts within {number} leave after {number} unless ann joined")
                self.assertEqual(clause, (0, 1, 1, number, (), (("joined", 0), number)))

    def test_a_clause_in_full(self):
        self.assertEqual(clause_of("x: cid to ann 9 parts within 1"), (2, 0, 9, 1, (), ()))
        self.assertEqual(clause_of("x: bob to cid 1 parts within 70"), (1, 2, 1, 70, (), ()))

    def test_events(self):
        head = HEAD[:3] + ["others fee rent"] + HEAD[3:]
        tail = ["deal rent", "houses a b", "close 0", "up: a to b 1 parts within 1", "pay: b to a 9 parts within 1"]
        tail += ["deal fee", "houses a b", "close 0", "pay: a to b 1 parts within 1", "up: b to a 9 parts within 1"]
        for event, told in [
            ("ann joined", ("joined", 0)),
            ("cid joined", ("joined", 2)),
            ("bob said go", ("said", 1, "go")),
            ("bob said bell", ("said", 1, "bell")),
            ("cid said x", ("said", 2, "x")),
            ("cid said ann", ("said", 2, "ann")),
            ("did pay 1", ("did", 0, 0, 0)),
            ("did pay 2", ("did", 0, 0, 1)),
            ("did last 1", ("did", 0, 2, 0)),
            ("did last 9", ("did", 0, 2, 8)),
            ("did fee.up 9", ("did", 1, 1, 8)),
            ("did fee.pay 1", ("did", 1, 0, 0)),
            ("did rent.up 1", ("did", 2, 0, 0)),
            ("did rent.pay 4", ("did", 2, 1, 3)),
        ]:
            start = "x: ann to bob 1 parts within 2"
            last = "last: ann to cid 9 parts within 1"
            for form, conds, leave in [
                (f"{start} if {event}", (told,), ()),
                (f"{start} leave after 4 unless {event}", (), (told, 4)),
                (f"{start} if bob joined and {event} and ann said y", (("joined", 1), told, ("said", 0, "y")), ()),
                (f"{start} if bob joined leave after 1 unless {event}", (("joined", 1),), (told, 1)),
                (f"{start} if {event} leave after 1 unless bob joined", (told,), (("joined", 1), 1)),
            ]:
                town, names = read_town("\n".join(head + [FIRST, form, last] + tail))
                self.assertEqual(town[1]["sale"][3][1], (0, 1, 1, 2, conds, leave), form)
                self.assertTrue(is_town(town))
                self.assertEqual(names, {"sale": ("pay", "x", "last"), "rent": ("up", "pay"), "fee": ("pay", "up")})

    def test_eight_conds_and_leave(self):
        conds = " and ".join(f"ann said {word}" for word in "abcdefgh")
        clause = clause_of(f"x: ann to bob 1 parts within 1 if {conds} leave after 1 unless bob said a")
        self.assertEqual(clause[4], tuple(("said", 0, word) for word in "abcdefgh"))
        self.assertEqual(clause[5], (("said", 1, "a"), 1))

    def test_named_ahead(self):
        rows = HEAD + ["one: ann to bob 1 parts within 1 if did two 3",
                       "two: bob to cid 3 parts within 1 if did three 2 leave after 1 unless did one 1",
                       "three: bob to cid 2 parts within 1"]
        clauses = read_town("\n".join(rows))[0][1]["sale"][3]
        self.assertEqual(clauses, ((0, 1, 1, 1, (("did", 0, 1, 2),), ()),
                                   (1, 2, 3, 1, (("did", 0, 2, 1),), (("did", 0, 0, 0), 1)),
                                   (1, 2, 2, 1, (), ())))

    def test_named_ahead_and_a_short_row(self):
        rows = HEAD + ["one: ann to bob 1 parts within 1 if did two 3", "two: ann offers bob 3 parts within 2"]
        clauses = read_town("\n".join(rows))[0][1]["sale"][3]
        self.assertEqual(clauses[0][4], (("did", 0, 1, 2),))

    def test_deals_that_name_one_another(self):
        rows = ["span 1", "deal a", "houses x y", "others b", "close 1", "n: x to y 1 parts within 1 if did b.m 2",
                "deal b", "houses y x", "others a", "close 2", "m: x to y 2 parts within 1 if did a.n 1"]
        town, names = read_town("\n".join(rows))
        self.assertEqual(town, (1, {"a": (("x", "y"), ("b",), 1, ((0, 1, 1, 1, (("did", 1, 0, 1),), ()),)),
                                    "b": (("y", "x"), ("a",), 2, ((1, 0, 2, 1, (("did", 1, 0, 0),), ()),))}))
        self.assertEqual(names, {"a": ("n",), "b": ("m",)})

    def test_asks(self):
        self.assertEqual(clause_of("x: ann asks cid within 7"), (2, 0, 1, 7, (("said", 0, "x"),), ()))
        self.assertEqual(clause_of(" x:  cid   asks bob within  1 "), (1, 2, 1, 1, (("said", 2, "x"),), ()))

    def test_offers(self):
        self.assertEqual(clause_of("x: ann offers cid 4 parts within 7"), (0, 2, 4, 7, (("said", 2, "x"),), ()))
        self.assertEqual(clause_of("x: cid offers bob 9 parts within 1"), (2, 1, 9, 1, (("said", 1, "x"),), ()))

    def test_remind(self):
        self.assertEqual(clause_of("x: remind pay within 6"), (0, 1, 1, 6, (("said", 1, "x"),), ()))

    def test_stands(self):
        self.assertEqual(clause_of("x: cid stands for pay within 6"), (2, 1, 2, 6, (("said", 1, "x"),), ()))
        self.assertEqual(clause_of("x: ann stands for pay within 1"), (0, 1, 2, 1, (("said", 1, "x"),), ()))

    def test_short_rows_upon_short_rows(self):
        rows = HEAD + ["a: ann asks cid within 2", "b: remind a within 3", "c: bob stands for b within 4",
                       "d: bob offers cid 5 parts within 5", "e: remind d within 6", "f: ann stands for d within 7",
                       "g: remind f within 8", "h: cid to ann 3 parts within 9 if bob joined",
                       "i: bob stands for h within 1"]
        town, names = read_town("\n".join(rows))
        self.assertEqual(town[1]["sale"][3], (
            (2, 0, 1, 2, (("said", 0, "a"),), ()), (2, 0, 1, 3, (("said", 0, "b"),), ()),
            (1, 0, 1, 4, (("said", 0, "c"),), ()), (1, 2, 5, 5, (("said", 2, "d"),), ()),
            (1, 2, 1, 6, (("said", 2, "e"),), ()), (0, 2, 5, 7, (("said", 2, "f"),), ()),
            (0, 2, 1, 8, (("said", 2, "g"),), ()), (2, 0, 3, 9, (("joined", 1),), ()),
            (1, 0, 3, 1, (("said", 0, "i"),), ())))
        self.assertEqual(names, {"sale": tuple("abcdefghi")})

    def test_bounds_that_hold(self):
        words = "aa bb cc dd ee ff gg abcdefghijkl".split()
        clauses = [f"{word}: aa to bb 1 parts within 1" for word in "abcdefghijkl"]
        others = words[:4]
        rows = ["span 0", "deal abcdefghijkl", "houses " + " ".join(words), "others " + " ".join(others), "close 0"]
        for name in others:
            rows += clauses + ["deal " + name, "houses x y", "close 0"]
            clauses = ["n: x to y 1 parts within 1"]
        town, names = read_town("\n".join(rows + clauses))
        deal = town[1]["abcdefghijkl"]
        self.assertEqual((deal[0], deal[1], len(deal[3])), (tuple(words), tuple(others), 12))
        self.assertEqual(names["abcdefghijkl"], tuple("abcdefghijkl"))

    def test_names_shared_between_kinds(self):
        rows = ["span 1", "deal a", "houses a b", "others b", "close 1", "a: a to b 1 parts within 1 if b said a",
                "b: b to a 1 parts within 1 if did a 1 and did b.a 1", "deal b", "houses a b", "close 1",
                "a: a to b 1 parts within 1"]
        town, names = read_town("\n".join(rows))
        self.assertEqual(town[1]["a"][3][1][4], (("did", 0, 0, 0), ("did", 1, 0, 0)))
        self.assertEqual(names, {"a": ("a", "b"), "b": ("a",)})

    def test_bell_may_be_said_and_name_deals_and_clauses(self):
        rows = ["span 1", "deal bell", "houses a b", "close 1", "bell: a asks b within 1"]
        town, names = read_town("\n".join(rows))
        self.assertEqual(town[1]["bell"][3], ((1, 0, 1, 1, (("said", 0, "bell"),), ()),))
        self.assertEqual(names, {"bell": ("bell",)})

    def test_words_that_have_row_words_in_them(self):
        rows = ["span 1", "deal dealer", "houses too iff", "close 1", "spans: too to iff 1 parts within 1"]
        self.assertEqual(read_town("\n".join(rows))[1], {"dealer": ("spans",)})


class ShownAndRead(unittest.TestCase):
    def test_what_is_shown_reads_again(self):
        self.assertEqual(read_town(shown_town(TOWN, NAMES)), (TOWN, NAMES))
        self.assertEqual(read_town(shown_town((5, {}), {})), ((5, {}), {}))

    def test_made_towns(self):
        for seed in range(150):
            town, names = Maker(seed).town()
            again = read_town(shown_town(town, names))
            self.assertEqual(again, (town, names))
            self.assertTrue(is_town(again[0]))

    def test_a_full_town_reads_again_whatever_its_size(self):
        words = [first + second for first in "abcdef" for second in "vwxyz"]
        houses = tuple(word + "abcdefghij" for word in words[:8])
        names = {word: tuple(other + "zzzzzzzzzz" for other in words[:12]) for word in words}
        deals = {}
        for at, word in enumerate(words):
            others = tuple(words[at - step] for step in (1, 2, 3, 4))
            conds = tuple(("did", k, 11, p) for k in (1, 4) for p in (0, 3, 5, 8))
            clause = (0, 7, 9, 10 ** 29, conds, (("said", 3, "abcdefghijkl"), 10 ** 29))
            deals[word] = (houses, others, 10 ** 29, (clause,) * 12)
        town = (10 ** 29, deals)
        self.assertTrue(is_town(town))
        self.assertGreater(len(shown_town(town, names)), 4000)
        self.assertEqual(read_town(shown_town(town, names)), (town, names))


class NoText(Asking):
    def test_no_text(self):
        for thing in ANYTHING:
            if not isinstance(thing, str):
                self.refused(thing, None)
        self.refused(SHOWN.encode(), None)
        self.refused([SHOWN], None)
        self.refused(SHOWN.split("\n"), None)

    def test_it_ends_too_soon(self):
        for text in ["", " ", "\n", "\n  \n\n"]:
            self.refused(text, None)
        for many in [2, 3, 4]:
            self.refused_rows(HEAD[:many], None)
            self.refused_rows(HEAD[:many] + ["", " "], None)
            self.refused_rows(HEAD + [FIRST] + [row.replace("sale", "rent") for row in HEAD[1:many]], None)
        self.refused_rows(HEAD[:3] + ["others rent"], None)

    def test_it_ends_too_soon_ahead_of_what_is_not_there(self):
        self.refused_rows(HEAD[:3] + ["others rent", "close 4"], None)
        rows = HEAD + ["pay: ann to bob 2 parts within 5 if did gone 1", "deal rent", "houses a b", "close 1"]
        self.refused_rows(rows, None)


class Refused(Asking):
    def test_no_told_form(self):
        for text in ["x", "span", "span 1 2", "SPAN 1", "span: 1", "span x", "1", "spans 1", "deal sale", "span1",
                     "houses a b", "# span 1", "\tspan 1", "span\t1", "span 1;"]:
            self.refused(text, 1)
            self.refused("\n  \n\n" + text + "\nspan 1", 4)

    def test_numbers_of_span_and_close(self):
        for number in NO_NUMBERS:
            self.refused(f"span {number}", 1)
            self.refused_rows(HEAD[:3] + [f"close {number}", FIRST], 4)

    def test_each_row_in_its_turn(self):
        rows = HEAD[:3] + ["others rent", "close 40", FIRST]
        rest = ["deal rent", "houses a b", "close 1", "n: a to b 1 parts within 1"]
        read_town("\n".join(rows + rest))
        for at in range(len(rows)):
            if rows[at] != "others rent":
                self.refused_rows(rows[:at] + rows[at + 1:] + rest, at + 1)
            if rows[at] != FIRST:
                self.refused_rows(rows[:at + 1] + rows[at:] + rest, at + 2)
        for at, odd in enumerate(["span 1", "deal other", "houses a b", "others rent", "close 3", FIRST]):
            for place in range(len(rows) + 1):
                # In their turn: a row in its own, close where others may be left out, what comes behind a clause.
                in_turn = [(at, odd), (3, "close 3"), (len(rows), "deal other"), (len(rows), FIRST)]
                if (place, odd) not in in_turn:
                    self.refused_rows(rows[:place] + [odd] + rows[place:] + rest, place + 1)

    def test_a_row_twice(self):
        self.refused_rows(HEAD[:3] + ["others rent", "others fee", "close 1", FIRST], 5)
        self.refused_rows(HEAD + ["close 1", FIRST], 5)
        self.refused_rows(HEAD + [FIRST, "span 3"], 6)
        self.refused_rows(HEAD + [FIRST, "houses a b"], 6)
        self.refused_rows(HEAD + [FIRST, "others rent"], 6)
        self.refused_rows(HEAD + [FIRST, "close 1"], 6)

    def test_a_deal_without_a_clause(self):
        self.refused_rows(HEAD + ["deal rent", "houses a b", "close 1", "n: a to b 1 parts within 1"], 5)

    def test_others_ahead_of_close(self):
        self.refused_rows(HEAD[:3] + ["close 1", "others rent", FIRST], 5)

    def test_rows_of_deals(self):
        for row in ["deal", "deal sale sale", "deal sale:", "deal: sale", "Deal sale"] + \
                ["deal " + word for word in NO_NAMES]:
            self.refused_rows(["span 3", row] + HEAD[2:] + [FIRST], 2)

    def test_alike_deals(self):
        for names, row in [(["sale", "sale"], 6), (["sale", "rent", "sale"], 10), (["a", "b", "b"], 10)]:
            rows = ["span 3"]
            for name in names:
                rows += ["deal " + name, "houses a b", "close 1", "n: a to b 1 parts within 1"]
            self.refused_rows(rows, row)

    def test_houses(self):
        for words in ["", "a a", "a b a", "bell", "a bell", "a b c d e f g h i", "a b, c"]:
            self.refused_rows(HEAD[:2] + ["houses " + words, "close 1", "n: a to b 1 parts within 1"], 3)
        for word in NO_NAMES:
            self.refused_rows(HEAD[:2] + ["houses a b " + word, "close 1", "n: a to b 1 parts within 1"], 3)
        self.refused_rows(HEAD[:2] + ["house a b", "close 1", "n: a to b 1 parts within 1"], 3)

    def test_one_house_can_owe_nobody(self):
        self.refused_rows(HEAD[:2] + ["houses a", "close 1", "n: a to a 1 parts within 1"], 5)

    def test_others(self):
        for words in ["", "rent rent", "rent fee rent", "a b c d e", "sale", "rent sale"]:
            self.refused_rows(HEAD[:3] + ["others " + words, "close 1", FIRST], 4)
        for word in NO_NAMES:
            self.refused_rows(HEAD[:3] + ["others rent " + word, "close 1", FIRST], 4)

    def test_rows_of_close(self):
        for row in ["close", "close 1 2", "closes 1", "close: 1", "1 close"]:
            self.refused_rows(HEAD[:3] + [row, FIRST], 4)
            self.refused_rows(HEAD[:3] + ["others rent", row, FIRST], 5)


class RefusedClauses(Asking):
    def refused_clause(self, clause):
        """The clause is refused as the second of its deal, whether good rows or bad ones stand behind it."""
        self.refused_rows(HEAD + [FIRST, clause, "oops"], 6)
        self.refused_rows(HEAD + [FIRST, clause, "last: ann to bob 1 parts within 1"], 6)
        self.refused_rows(["", " "] + HEAD + [FIRST, "", clause, "last: ann to bob 1 parts within 1"], 9)

    def taken(self, clause):
        read_town("\n".join(HEAD + [FIRST, clause, "last: ann to bob 1 parts within 1"]))

    def test_names(self):
        for word in NO_NAMES:
            self.refused_clause(f"{word}: ann to bob 1 parts within 1")
        for row in ["x ann to bob 1 parts within 1", "x : ann to bob 1 parts within 1",
                    "x:ann to bob 1 parts within 1", "x:: ann to bob 1 parts within 1",
                    ": ann to bob 1 parts within 1", "x", "x:", ":", "ann to bob 1 parts within 1",
                    "x: ann", "x: ann to", "deal: ann to bob 1 parts within 1", "x:; ann to bob 1 parts within 1",
                    "x; ann to bob 1 parts within 1"]:
            self.refused_clause(row)
        self.refused_rows(HEAD + ["x ann to bob 1 parts within 1"], 5)

    def test_alike_names(self):
        for row in [FIRST, "pay: cid to bob 1 parts within 1", "pay: ann asks bob within 1",
                    "pay: ann offers bob 1 parts within 1", "pay: remind pay within 1",
                    "pay: cid stands for pay within 1"]:
            self.refused_clause(row)

    def test_thirteen_clauses(self):
        rows = HEAD + [f"{name}: ann to bob 1 parts within 1" for name in "abcdefghijkl"]
        read_town("\n".join(rows))
        self.refused_rows(rows + ["m: ann to bob 1 parts within 1"], 17)
        self.refused_rows(rows + ["m: remind a within 1"], 17)

    def test_forms(self):
        for row in ["x: ann to bob 1 parts within", "x: ann to bob 1 parts 1", "x: ann to bob parts within 1",
                    "x: ann bob 1 parts within 1", "x: ann to bob 1 part within 1", "x: ann to bob 1 parts in 1",
                    "x: ann to bob 1 parts within 1 1", "x: ann to bob 1 parts within 1 now",
                    "x: ann to bob 1 parts within 1.", "x: ann To bob 1 parts within 1",
                    "x: ann owes bob 1 parts within 1", "x: to ann bob 1 parts within 1",
                    "x: ann to bob 1 parts within 1 x: ann to bob 1 parts within 1"]:
            self.refused_clause(row)

    def test_houses(self):
        for row in ["ann to {} 1 parts within 1", "{} to ann 1 parts within 1", "{} asks ann within 1",
                    "ann asks {} within 1", "{} offers ann 1 parts within 1", "ann offers {} 1 parts within 1",
                    "{} stands for pay within 1"]:
            self.taken("x: " + row.format("cid"))
            for word in ["dan", "bell", "sale", "pay", "x", "0", "1"] + NO_NAMES:
                self.refused_clause("x: " + row.format(word))

    def test_alike_houses(self):
        for row in ["ann to ann 1 parts within 1", "bob asks bob within 1", "cid offers cid 1 parts within 1",
                    "bob stands for pay within 1"]:
            self.refused_clause("x: " + row)

    def test_parts(self):
        for row in ["ann to bob {} parts within 1", "ann offers bob {} parts within 1",
                    "ann to bob 1 parts within 1 if did last {}",
                    "ann to bob 1 parts within 1 leave after 1 unless did last {}"]:
            for number in NO_NUMBERS + ["0", "10", "11", "100", "9" * 50]:
                self.refused_clause("x: " + row.format(number))
        for number in range(1, 10):
            self.taken(f"x: ann to bob {number} parts within 1")
            self.taken(f"x: ann offers bob {number} parts within 1")

    def test_numbers_from_one(self):
        for row in ["ann to bob 1 parts within {}", "ann asks bob within {}", "ann offers bob 1 parts within {}",
                    "remind pay within {}", "cid stands for pay within {}",
                    "ann to bob 1 parts within 1 leave after {} unless ann joined"]:
            for number in NO_NUMBERS + ["0"]:
                self.refused_clause("x: " + row.format(number))
            for number in ["1", "2", "10", "9" * 30]:
                self.taken("x: " + row.format(number))

    def test_short_forms(self):
        for row in ["ann asks bob 1 parts within 1", "ann asks bob within", "ann asks bob", "ann asks within 1",
                    "asks bob within 1", "ann ask bob within 1", "ann asks bob in 1", "ann asks bob within 1 1",
                    "ann asks bob within 1 if ann joined", "ann asks bob within 1 leave after 1 unless ann joined",
                    "ann offers bob within 1", "ann offers bob 1 parts within", "ann offers bob 1 part within 1",
                    "ann offers bob 1 parts within 1 if ann joined", "ann offers bob 1 parts within 1 1",
                    "ann offers 1 parts within 1", "ann offers bob 1 parts in 1",
                    "ann offers bob 1 parts within 1 leave after 1 unless ann joined",
                    "remind", "remind pay", "remind pay within", "remind pay 1", "remind within 1",
                    "ann remind pay within 1", "remind pay in 1", "reminds pay within 1", "remind pay within 1 1",
                    "remind pay within 1 if ann joined", "remind pay within 1 leave after 1 unless ann joined",
                    "cid stands for pay within", "cid stands pay within 1", "cid stands for pay", "cid stands for",
                    "cid stands", "stands for pay within 1", "cid stand for pay within 1", "cid stands four pay within 1",
                    "cid stands for pay in 1", "cid stands for pay within 1 1",
                    "cid stands for pay within 1 if ann joined",
                    "cid stands for pay within 1 leave after 1 unless ann joined", "cid for pay within 1"]:
            self.refused_clause("x: " + row)

    def test_a_clause_that_should_stand_ahead(self):
        for row in ["remind {} within 1", "cid stands for {} within 1"]:
            self.taken("x: " + row.format("pay"))
            for name in ["last", "x", "gone", "ann", "sale", "sale.pay", "pay.pay", "pay:", "Pay", "within", "deal"]:
                self.refused_clause("x: " + row.format(name))

    def test_a_clause_ahead_in_another_deal_is_none(self):
        for row in ["remind pay within 1", "cid stands for pay within 1", "remind sale.pay within 1"]:
            rows = HEAD + [FIRST, "deal rent", "houses ann bob cid", "others sale", "close 1",
                           "n: ann to bob 1 parts within 1", "x: " + row]
            self.refused_rows(rows, 11)

    def test_tails(self):
        for tail in ["if", "if and", "if ann joined and", "if and ann joined", "if ann joined and and bob joined",
                     "ann joined", "and ann joined", "if ann joined bob joined", "if ann joined if bob joined",
                     "if ann joined, bob joined", "when ann joined", "leave", "leave after", "leave after 1",
                     "leave after 1 unless", "leave after unless ann joined", "leave 1 unless ann joined",
                     "leave after 1 ann joined", "leave after 1 if ann joined", "leave before 1 unless ann joined",
                     "leave after 1 unless ann joined if bob joined", "unless ann joined",
                     "leave after 1 unless ann joined and bob joined", "if ann joined and leave after 1 unless bob joined",
                     "if leave after 1 unless bob joined",
                     "leave after 1 unless ann joined leave after 1 unless bob joined",
                     "if ann joined leave after 1 unless bob joined x", "if ann joined unless bob joined"]:
            self.refused_clause("x: ann to bob 1 parts within 1 " + tail)

    def test_events(self):
        events = ["ann", "joined", "ann join", "joined ann", "ann joined go", "ann bob joined", "dan joined",
                  "bell joined", "sale joined", "0 joined", "ann said", "said go", "ann said go go", "dan said go",
                  "bell said go", "ann says go", "ann say go", "said ann go", "did", "did pay", "did pay 1 1",
                  "did 1 pay", "pay did 1", "ann did pay 1", "did pay one", "did pay.1", "did pay .1", "do pay 1",
                  "did: pay 1", "did pay: 1", "did pay, 1", "did . 1", "did pay. 1", "did .pay 1", "did x 1", "did x 9"]
        events += [f"ann said {word}" for word in NO_NAMES]
        events += [f"did {word} 1" for word in NO_NAMES]
        events += [f"{word} joined" for word in NO_NAMES] + [f"{word} said go" for word in NO_NAMES]
        for event in events:
            self.refused_clause(f"x: ann to bob 1 parts within 1 if {event}")
            self.refused_clause(f"x: ann to bob 1 parts within 1 if bob joined and {event}")
            self.refused_clause(f"x: ann to bob 1 parts within 1 leave after 1 unless {event}")

    def test_nine_conds(self):
        conds = [f"ann said {word}" for word in "abcdefghi"]
        self.taken("x: ann to bob 1 parts within 1 if " + " and ".join(conds[:8]))
        self.refused_clause("x: ann to bob 1 parts within 1 if " + " and ".join(conds))

    def test_alike_events(self):
        for event in ["ann joined", "bob said go", "did last 1", "did pay 2", "did gone 1"]:
            self.refused_clause(f"x: ann to bob 1 parts within 1 if {event} and {event}")
            self.refused_clause(f"x: ann to bob 1 parts within 1 if {event} and cid joined and {event}")
            self.refused_clause(f"x: ann to bob 1 parts within 1 if {event} leave after 1 unless {event}")
            row = f"x: ann to bob 1 parts within 1 if cid joined and {event} leave after 1 unless {event}"
            self.refused_clause(row)

    def test_a_deal_that_is_none_of_the_others(self):
        head = HEAD[:3] + ["others rent", "close 1"]
        rest = ["deal rent", "houses a b", "close 1", "pay: a to b 1 parts within 1"]
        rest += [line.replace("rent", "fee") for line in rest]
        good = "pay: ann to bob 1 parts within 1 if did rent.pay 1"
        read_town("\n".join(head + [good] + rest))
        for deal in ["fee", "sale", "gone", "ann", "bell", "deal", "Rent", "", "rent.rent", "rent.", "rent:"]:
            for form in ["if did {}.pay 1", "leave after 1 unless did {}.pay 1"]:
                row = "x: ann to bob 1 parts within 1 " + form.format(deal)
                self.refused_rows(head + [row] + rest, 6)
                self.refused_rows(head + [row, "oops"], 6)
        for name in NO_NAMES + [""]:
            row = f"x: ann to bob 1 parts within 1 if did rent.{name} 1"
            self.refused_rows(head + [row] + rest, 6)
            self.refused_rows(head + [row, "oops"], 6)
        for part in NO_NUMBERS + ["0", "10"]:
            row = f"x: ann to bob 1 parts within 1 if did rent.pay {part}"
            self.refused_rows(head + [row] + rest, 6)


class NotThere(Asking):
    def test_a_clause(self):
        for tail in ["if did gone 1", "if ann joined and did gone 1", "leave after 1 unless did gone 1"]:
            rows = HEAD + [FIRST, "x: ann to bob 1 parts within 1 " + tail, "y: ann to bob 1 parts within 1 " + tail]
            self.refused_rows(rows, 6)
            self.refused_rows(["", ""] + rows, 8)

    def test_a_part(self):
        for name in ["pay", "y"]:
            for part in range(1, 10):
                rows = HEAD + [FIRST, f"x: ann to bob 1 parts within 1 if did {name} {part}",
                               "y: ann to bob 2 parts within 1"]
                if part <= 2:
                    read_town("\n".join(rows))
                else:
                    self.refused_rows(rows, 6)

    def test_a_deal(self):
        rows = HEAD[:3] + ["others rent", "close 1", "x: ann to bob 1 parts within 1 if did rent.pay 1"]
        self.refused_rows(rows, 4)
        self.refused_rows(HEAD[:3] + ["others rent", "close 1", FIRST], 4)
        rest = ["deal fee", "houses a b", "close 1", "n: a to b 1 parts within 1"]
        self.refused_rows(HEAD[:3] + ["others fee rent", "close 1", FIRST] + rest, 4)

    def test_a_clause_or_part_of_another_deal(self):
        for event, good in [("did rent.n 1", True), ("did rent.n 3", True), ("did rent.n 4", False),
                            ("did rent.x 1", False), ("did rent.gone 1", False)]:
            rows = HEAD[:3] + ["others rent", "close 1", f"x: ann to bob 9 parts within 1 if {event}"]
            rows += ["deal rent", "houses a b", "close 1", "n: a to b 3 parts within 1"]
            if good:
                read_town("\n".join(rows))
            else:
                self.refused_rows(rows, 6)

    def test_behind_all_rows(self):
        missing = "x: ann to bob 1 parts within 1 if did gone 1"
        self.refused_rows(HEAD + [missing, FIRST, "oops"], 7)
        self.refused_rows(HEAD + [missing, FIRST, FIRST], 7)
        self.refused_rows(HEAD + [FIRST, "x: ann to bob 1 parts within 1 if did pay 3", "y: ann to dan 1 parts within 1"], 7)
        self.refused_rows(HEAD[:3] + ["others gone", "close x"], 5)
        self.refused_rows(HEAD[:3] + ["others gone", "close 1", FIRST, "deal sale"], 7)
        self.refused_rows(HEAD + [missing, "y: remind gone within 1"], 6)

    def test_the_first_row_that_names_it(self):
        first = HEAD + ["x: ann to bob 1 parts within 1 if did y 2", "y: ann to bob 1 parts within 1 if did gone 1"]
        self.refused_rows(first, 5)
        rows = ["span 1", "deal a", "houses x y", "others b", "close 1", "n: x to y 1 parts within 1 if did b.m 2",
                "deal b", "houses x y", "others gone", "close 1", "m: x to y 1 parts within 1"]
        self.refused_rows(rows, 6)
        rows[5] = "n: x to y 1 parts within 1 if did b.m 1"
        self.refused_rows(rows, 9)


class First(Asking):
    def test_the_first_row_at_fault_is_told(self):
        rows = HEAD + [FIRST]
        for at in range(len(rows)):
            for later in range(at + 1, len(rows)):
                broken = list(rows)
                broken[at] = "oops"
                broken[later] = "oops"
                self.refused_rows(broken, at + 1)

    def test_a_fault_stands_ahead_of_an_early_end(self):
        self.refused("span x", 1)
        self.refused_rows(["span 1", "deal deal"], 2)
        self.refused_rows(HEAD[:2] + ["houses a a"], 3)


class Kept(unittest.TestCase):
    def test_told_again_and_the_askers_own(self):
        town, names = read_town(SHOWN)
        kept = copy.deepcopy((town, names))
        town[1].clear()
        names.clear()
        again = read_town(SHOWN)
        self.assertEqual(again, kept)
        again[0][1]["sale"] = None
        again[1]["sale"] = None
        self.assertEqual(read_town(SHOWN), kept)

    def test_lists_handed_in_stay(self):
        thing = ["span 1"]
        with self.assertRaises(NoTown):
            read_town(thing)
        self.assertEqual(thing, ["span 1"])

    def test_refused_again(self):
        for turn in range(2):
            with self.assertRaises(NoTown) as caught:
                read_town("span 1\noops")
            self.assertEqual(caught.exception.row, 2)
        self.assertEqual(read_town("span 1"), ((1, {}), {}))


if __name__ == "__main__":
    unittest.main()
