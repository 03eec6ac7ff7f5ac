"""A judge's desk: letters come one by one, and what they newly come to is told."""

from holdword.books import comings_of, short
from holdword.claims import in_order
from holdword.deals import own_town
from holdword.errors import NoPile
from holdword.judging import told_on
from holdword.letters import name_of
from holdword.marks import marks
from holdword.piles import by_name, followed


def with_followers(letters, names):
    """Tell a dict of some names, and of those of all letters that follow on theirs, one behind another."""
    after = {}
    for name, letter in letters.items():
        after.setdefault(followed(letter), []).append(name)
    found = {}
    left = list(names)
    while left:
        name = left.pop()
        if name not in found:
            found[name] = True
            left.extend(after.get(name, []))
    return found


def touched(letters, name):
    """List the names of the letters of which more may be told since the letter of a name came."""
    rows = with_followers(letters, [name])
    getting = [other for other, letter in letters.items() if any([got in rows for got in letter[4]])]
    return list(with_followers(letters, getting + [name]))


class Judge:
    """Has a town and a book, here as letters by names and their comings, and what is told of it so far."""

    def __init__(self, town):
        self.town = own_town(town)
        self.arrived = {}
        self.comings = {}
        self.sure = {}

    def come(self, letter, time):
        """List what is told newly since a letter came; NoPile where another one of the book has its name."""
        name = name_of(letter)
        if self.arrived.get(name, letter) != letter:
            raise NoPile()
        self.arrived[name] = letter
        self.comings[name] = min(self.comings.get(name, time), time)
        found = marks(self.town, list(self.arrived.values()), self.comings)
        for other in touched(self.arrived, name):
            found.extend(told_on(self.town, self.arrived, other))
        # What was told ahead is told for good, so it is enough to look for more.
        new = in_order([claim for claim in found if claim not in self.sure])
        self.sure.update({claim: True for claim in new})
        return new

    def told(self):
        """List all claims that are told of the book."""
        return in_order(list(self.sure))

    def book(self):
        """Tell the book: a dict from letters to the least times at which they came."""
        return {letter: self.comings[name] for name, letter in self.arrived.items()}

    def cut(self):
        """Cut the book short for all that is told of it."""
        kept = short(self.town, self.book(), self.told())
        self.arrived = by_name(list(kept))
        self.comings = comings_of(kept)
