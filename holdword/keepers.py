"""Keepers: a house's own clerk, who writes no letter by which the house would break its word."""

from holdword.deals import own_town
from holdword.letters import MOST_GOTS, name_of
from holdword.marks import is_back, is_behind
from holdword.piles import followed
from holdword.reading import Reader, claims_among, view_of
from holdword.rows import first_places, has_beginning, row_among


def begun_letters(letters):
    """Tell a dict of those letters, of a dict from names to them, whose row has its beginning."""
    return {name: letter for name, letter in letters.items() if has_beginning(row_among(letters, name))}


def unmet(known, last):
    """List, rising, the names of known letters that the row of a last letter hasn't met; itself it has.

    What another known letter follows on is left out: it is met along with that one.
    """
    after = {followed(letter): True for letter in known.values()}
    met = first_places(known, row_among(known, last))
    return sorted([name for name in known if name not in after and name not in met])


def breaks(town, known, letter):
    """Tell whether a house would break its word by a letter, itself among the known ones."""
    if is_back(known, letter) or is_behind(known, letter, town[0]):
        return True
    return any([claim[0] in ("ill", "late") for claim in claims_among(town, known, name_of(letter))])


def parts_held(town, known, name):
    """List the parts still to be done of clauses to which a letter holds its house: tuples (deal, c, p, due)."""
    view = view_of(town, known, name)
    if view is None:
        return []
    reader = Reader(town, view, {})
    held = [claim[2:] for claim in reader.claims() if claim[0] == "held"]
    return [(name[1], c, p, due) for c, due in held for p in reader.undone(c, reader.begin(c))]


class Keeper:
    """Has the letters of its own house, those of others that came, and the last nr that it wrote in each deal."""

    def __init__(self, town, house):
        self.town = own_town(town)
        self.house = house
        self.written = {}
        self.arrived = {}
        self.last = {}

    def came(self, letter):
        """Take in a letter of another house; one of its own is passed over."""
        if letter[0] != self.house:
            self.arrived.setdefault(name_of(letter), letter)

    def known(self):
        """Tell a dict from names to the known letters: its own, and those of others that wait for none."""
        found = begun_letters(self.arrived)
        found.update(self.written)
        return found

    def write(self, deal, time, deed):
        """Tell a letter that is now written; None where the house would break its word by it."""
        known = self.known()
        prev = self.last.get(deal, 0)
        gots = unmet(known, (self.house, deal, prev))[:MOST_GOTS]
        letter = (self.house, deal, prev + 1, prev, tuple(gots), time, deed)
        known[name_of(letter)] = letter
        if breaks(self.town, known, letter):
            return None
        self.written[name_of(letter)] = letter
        self.last[deal] = prev + 1
        return letter

    def owed(self, time):
        """List what is to be done by a time, sorted: tuples (deal, c, p, due)."""
        known = self.known()
        found = []
        for deal, nr in self.last.items():
            found.extend(parts_held(self.town, known, (self.house, deal, nr)))
        return sorted([part for part in found if part[3] <= time])

    def letters(self):
        """List the letters of its own house, sorted by names."""
        return [self.written[name] for name in sorted(self.written)]
