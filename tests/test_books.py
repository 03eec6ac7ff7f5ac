import copy
import itertools
import unittest

from holdword.books import joined, short
from holdword.chains import chain
from holdword.errors import HoldError, NoPile
from holdword.judging import told
from plain import PileMaker
from samples import ANYTHING, GO, JOIN, NO_CLAIMS, NOTE, clause, letter, line, name, town_of

ANN = name("ann", 1)
BOB = name("bob", 1)


def comings_by(book):
    return {one[:3]: time for one, time in book.items()}


def told_by(town, book):
    return told(town, list(book), comings_by(book))


class Joined(unittest.TestCase):
    ONE, TWO, THREE = line("ann", (1, JOIN), (2, NOTE)) + line("bob", (3, NOTE))

    def test_no_book_and_one(self):
        self.assertEqual(joined([]), {})
        self.assertEqual(joined([{}]), {})
        self.assertEqual(joined([{}, {}, {}]), {})
        self.assertEqual(joined([{self.ONE: 4, self.TWO: 0}]), {self.ONE: 4, self.TWO: 0})

    def test_several(self):
        books = [{self.ONE: 4}, {}, {self.TWO: 0, self.THREE: 10 ** 29}]
        for order in itertools.permutations(books):
            self.assertEqual(joined(list(order)), {self.ONE: 4, self.TWO: 0, self.THREE: 10 ** 29})

    def test_the_least_time(self):
        books = [{self.ONE: 4, self.TWO: 1}, {self.TWO: 3, self.ONE: 0}, {self.THREE: 5, self.ONE: 2}]
        for order in itertools.permutations(books):
            self.assertEqual(joined(list(order)), {self.ONE: 0, self.TWO: 1, self.THREE: 5})
        self.assertEqual(joined([books[0], books[0]]), books[0])

    def test_unlike_letters_of_one_name(self):
        good = {self.ONE: 4, self.THREE: 2}
        for at, value in [(3, 2), (4, (BOB,)), (5, 9), (6, GO)]:
            other = self.ONE[:at] + (value,) + self.ONE[at + 1:]
            for books in [[good, {other: 4}], [{other: 1}, good], [{}, good, {self.TWO: 1}, {self.TWO: 0, other: 4}],
                          [{other: 0}, {self.TWO: 1}, good], [{self.TWO: 1, self.ONE: 3}, {self.THREE: 3}, {other: 9}]]:
                given = copy.deepcopy(books)
                with self.assertRaises(NoPile) as caught:
                    joined(books)
                self.assertIsNone(caught.exception.row)
                self.assertIsInstance(caught.exception, HoldError)
                self.assertEqual(books, given)

    def test_letters_that_are_alike_but_for_their_names(self):
        others = [letter("ann", 1), letter("ann", 2), letter("bob", 1), letter("ann", 1, deal="rent")]
        self.assertEqual(joined([{one: 3} for one in others]), dict.fromkeys(others, 3))

    def test_what_is_handed_in_stays_and_what_is_told_is_the_askers_own(self):
        books = [{self.ONE: 4, self.TWO: 1}, {self.TWO: 0}]
        given = copy.deepcopy(books)
        for asked in [books, books[:1]]:
            for turn in range(2):
                found = joined(asked)
                self.assertEqual(found, {self.ONE: 4, self.TWO: 0 if len(asked) == 2 else 1})
                found[self.ONE] = 0
                found[self.THREE] = 0
                self.assertEqual(books, given)
        found = joined(books)
        books[0][self.ONE] = 1
        books[1].clear()
        self.assertEqual(found, {self.ONE: 4, self.TWO: 0})

    def test_books_come_to_what_all_their_letters_come_to(self):
        for seed in range(60):
            maker = PileMaker(seed)
            town = maker.town()
            whole = maker.whole(town, 14)
            books = [{one: maker.chance.randint(0, 9) for one in maker.some(whole, 7)} for _ in range(3)]
            least = {}
            for book in books:
                for one, time in book.items():
                    least[one[:3]] = min(time, least.get(one[:3], time))
            pile = [one for book in books for one in book]
            found = joined(books)
            self.assertEqual(set(found), set(pile))
            self.assertEqual(comings_by(found), least)
            self.assertEqual(told_by(town, found), told(town, pile, least))
            for book in books:
                for claim in told_by(town, book):
                    self.assertIn(claim, told_by(town, found), seed)


class Short(unittest.TestCase):
    TOWN = town_of(clause(conds=[("said", 1, "go")]), span=1)
    BOBS = line("bob", (0, GO), (0, NOTE))
    ANNS = line("ann", (1, JOIN, BOB), (2, ("do", 0, 0)), (9, NOTE, name("bob", 2)))
    ASIDE = line("cid", (9, NOTE), (0, NOTE))
    BOOK = {one: at for at, one in enumerate(ANNS + ASIDE + BOBS)}

    def shortened(self, claims, expected):
        given = copy.deepcopy((self.TOWN, self.BOOK, claims))
        found = short(self.TOWN, self.BOOK, claims)
        self.assertEqual(found, {one: self.BOOK[one] for one in expected})
        self.assertEqual((self.TOWN, self.BOOK, claims), given)
        self.assertLessEqual(set(told_by(self.TOWN, found)), set(told_by(self.TOWN, self.BOOK)))
        for claim in claims:
            self.assertEqual(claim in told_by(self.TOWN, found), claim in told_by(self.TOWN, self.BOOK))

    def test_claims(self):
        held = ("held", ANN, 0, 6)
        kept = ("kept", name("ann", 3), 0)
        back = ("back", name("cid", 2))
        ahead = ("ahead", name("cid", 1))
        self.assertEqual(told_by(self.TOWN, self.BOOK), sorted(
            [held, kept, back, ahead, ("kept", name("ann", 2), 0), ("ahead", name("ann", 3))]))
        self.shortened([], [])
        self.shortened([held], self.ANNS[:1] + self.BOBS[:1])
        self.shortened([kept], self.ANNS + self.BOBS[:1])
        self.shortened([back], self.ASIDE)
        self.shortened([ahead], self.ASIDE[:1])
        self.shortened([ahead, held], self.ASIDE[:1] + self.ANNS[:1] + self.BOBS[:1])
        self.shortened([held, held, kept, back], self.ANNS + self.ASIDE + self.BOBS[:1])

    def test_claims_that_are_not_told(self):
        held = ("held", ANN, 0, 6)
        self.shortened([("held", ANN, 0, 7)], [])
        self.shortened([("ill", ANN), ("ahead", BOB), ("kept", name("zed", 1), 0)], [])
        self.shortened([("ill", ANN), held, ("twin", ANN, BOB)], self.ANNS[:1] + self.BOBS[:1])

    def test_no_claims(self):
        self.assertEqual(short(self.TOWN, self.BOOK, ANYTHING + NO_CLAIMS), {})
        held = ("held", ANN, 0, 6)
        found = short(self.TOWN, self.BOOK, NO_CLAIMS + [held] + ANYTHING)
        self.assertEqual(found, {one: self.BOOK[one] for one in self.ANNS[:1] + self.BOBS[:1]})
        self.assertEqual(short(self.TOWN, {}, [held]), {})

    def test_what_is_told_is_the_askers_own(self):
        held = ("held", ANN, 0, 6)
        for claims in [[], [held]]:
            kept = dict(short(self.TOWN, self.BOOK, claims))
            for turn in range(2):
                found = short(self.TOWN, self.BOOK, claims)
                self.assertEqual(found, kept)
                found[self.ASIDE[0]] = 0

    def test_made_books(self):
        for seed in range(80):
            maker = PileMaker(seed)
            town = maker.town()
            pile = maker.some(maker.whole(town, 14), seed % 4)
            book = {one: max(0, one[5] + maker.chance.choice([-4, 0, 3])) for one in pile}
            sure = told_by(town, book)
            claims = maker.chance.sample(sure, len(sure) // 2) + [("ill", name("zed", 1))]
            found = short(town, book, claims)
            links = [chain(town, pile, comings_by(book), claim) for claim in claims[:-1]]
            self.assertEqual(found, {one: book[one] for some in links for one in some})
            self.assertLessEqual(set(claims[:-1]), set(told_by(town, found)))
            self.assertLessEqual(set(told_by(town, found)), set(sure))


if __name__ == "__main__":
    unittest.main()
