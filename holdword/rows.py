"""Rows of letters in a pile, what is seen by them, and the places of events."""

from holdword.events import letters_of
from holdword.letters import name_of
from holdword.piles import by_name, followed


def row_among(letters, name):
    """Tell the row of a name among letters, a dict from names to letters."""
    found = {}
    while name in letters and name not in found:
        found[name] = letters[name]
        name = followed(letters[name])
    return list(found.values())[::-1]


def row(pile, name):
    """Tell the row of a name in a pile, from its first letter to that of the name; [] where it has none."""
    return row_among(by_name(pile), name)


def has_beginning(found):
    """Tell whether a row has its beginning; one without letters has none."""
    return found != [] and found[0][3] == 0


def meet_row(letters, name, at, met):
    """Add the names of a row, and the gap at which it ends, to those that are met already."""
    # Where a name is met already, so is all that its letter follows on.
    while name[2] != 0 and name not in met:
        met[name] = at
        if name in letters:
            name = followed(letters[name])


def first_places(letters, found):
    """Tell a dict from names to the first place of a row by which each is met, gaps among them, the places rising."""
    met = {}
    for at, letter in enumerate(found, start=1):
        met[name_of(letter)] = at
        for got in letter[4]:
            meet_row(letters, got, at, met)
    return met


def seen(pile, name):
    """List the letters, sorted by names, that are seen by the place of a letter in its row."""
    letters = by_name(pile)
    met = first_places(letters, row_among(letters, name))
    return [letters[other] for other in sorted(met) if other in letters]


class View:
    """What is seen along the row of a letter, and what may be seen through the gaps at which its gots end."""

    def __init__(self, letters, name):
        self.name = name
        self.row = row_among(letters, name)
        self.sure = {}
        self.unsure = {}
        for other, at in first_places(letters, self.row).items():
            if other in letters:
                house, deal, deed = other[0], other[1], letters[other][6]
                self.sure.setdefault((house, deal, deed), at)
            else:
                self.unsure.setdefault(other[:2], []).append((at, other))

    def sure_place(self, sought):
        """Tell the first place by which what is sought is seen, or None."""
        houses, deal, deed = sought
        places = [self.sure.get((house, deal, deed)) for house in houses]
        return min([at for at in places if at is not None], default=None)

    def open_ends(self, sought):
        """List the gaps through which what is sought may be seen, each behind the first place with a got to it."""
        houses, deal, deed = sought
        return [end for house in houses for end in self.unsure.get((house, deal), [])]

    def perhaps_places(self, sought):
        """List, rising, the places ahead of the sure one by which what is sought may be seen."""
        sure = self.sure_place(sought)
        return sorted({at for at, gap in self.open_ends(sought) if sure is None or at < sure})


def place(town, pile, name, event):
    """Tell the first place, in the row of a letter, by which an event of its deal is seen; None where it isn't."""
    return View(by_name(pile), name).sure_place(letters_of(town, name[1], event))
