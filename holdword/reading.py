"""The plain reading of letters by a town: who is held to what, who kept it, who is late, and what is ill."""

from holdword.claims import in_order
from holdword.events import beginning, creditor_of, debtor_of, freeing, hindering, readying
from holdword.marks import marks
from holdword.piles import by_name
from holdword.rows import View, has_beginning


def is_ill_join(reader, deed):
    return reader.house not in reader.deal[0] or deed in reader.deeds[:-1]


def is_ill_do(reader, deed):
    c, p = deed[1:]
    return p >= reader.deal[3][c][2] or reader.begin(c) is None or reader.hands_on(c, len(reader.deeds) - 1)


def is_ill_free(reader, deed):
    return reader.house != creditor_of(reader.deal, deed[1])


def is_ill_ready(reader, deed):
    parties = (debtor_of(reader.deal, deed[1]), creditor_of(reader.deal, deed[1]))
    return reader.house not in reader.deal[0] or reader.house in parties or deed in reader.deeds[:-1]


def is_ill_hand(reader, deed):
    c, taker = deed[1:]
    if reader.house != debtor_of(reader.deal, c) or ("join",) not in reader.deeds[:-1]:
        return True
    if reader.hands_on(c, len(reader.deeds) - 1) or taker not in reader.deal[0]:
        return True
    if taker in (reader.house, creditor_of(reader.deal, c)):
        return True
    return reader.place_of(readying(taker, reader.called, c)) is None


def is_ill_quit(reader, deed):
    begun = reader.begin(deed[1])
    return begun is None or not reader.is_good_quit(deed[1], begun, len(reader.deeds))


# Deeds that aren't here are never ill.
ILLS = {
    "join": is_ill_join, "do": is_ill_do, "free": is_ill_free, "ready": is_ill_ready, "hand": is_ill_hand,
    "quit": is_ill_quit,
}


class Reader:
    """Reads a letter, by the view from it, with what is supposed: a dict from what is sought to its first place.

    Of all that nothing is supposed of the sure places hold, so with {} this is the plain reading.
    """

    def __init__(self, town, view, supposed):
        self.town = town
        self.view = view
        self.supposed = supposed
        self.house = view.name[0]
        self.called = view.name[1]
        self.deal = town[1][view.name[1]]
        self.deeds = [letter[6] for letter in view.row]
        self.times = [letter[5] for letter in view.row]

    def place_of(self, sought):
        """Tell the first place by which what is sought is seen, or None."""
        return self.supposed[sought] if sought in self.supposed else self.view.sure_place(sought)

    def begin(self, c):
        """Tell the place at which clause c begins for the letter's house, or None."""
        places = [self.place_of(sought) for sought in beginning(self.town, self.house, self.called, c)]
        if None in places or self.times[max(places) - 1] > self.deal[2]:
            return None
        return max(places)

    def due(self, c, begun):
        """Tell the due of clause c that begins at a place."""
        return self.times[begun - 1] + self.deal[3][c][3]

    def undone(self, c, begun):
        """List the parts of clause c that aren't done from its begin on, or only behind due."""
        due = self.due(c, begun)
        done = [deed for deed, time in zip(self.deeds[begun - 1:], self.times[begun - 1:]) if time <= due]
        return [p for p in range(self.deal[3][c][2]) if ("do", c, p) not in done]

    def is_kept(self, c, begun):
        """Tell whether all parts of clause c are done from its begin on, none of them behind due."""
        return self.undone(c, begun) == []

    def hands_on(self, c, many):
        """Tell whether one of the first so many letters of the row hands clause c on."""
        return any([deed[:2] == ("hand", c) for deed in self.deeds[:many]])

    def is_hindered(self, c, at):
        """Tell whether clause c may not be quitted at a place: it has no leave, or the event of it is seen."""
        places = [self.place_of(sought) for sought in hindering(self.town, self.called, c)]
        return places == [] or places[0] is not None and places[0] <= at

    def is_good_quit(self, c, begun, at):
        """Tell whether the letter at a place, not ahead of the begin, quits clause c as its leave lets it."""
        if self.deeds[at - 1] != ("quit", c) or self.is_hindered(c, at):
            return False
        return self.times[at - 1] >= self.times[begun - 1] + self.deal[3][c][5][1]

    def is_ended(self, c, begun):
        """Tell whether clause c is let off, handed on or quitted."""
        if self.place_of(freeing(self.town, self.called, c)) is not None:
            return True
        if self.house == debtor_of(self.deal, c) and self.hands_on(c, len(self.deeds)):
            return True
        return any([self.is_good_quit(c, begun, at) for at in range(begun, len(self.deeds) + 1)])

    def claim_on(self, c):
        """Tell what is claimed of clause c by the letter, or None."""
        begun = self.begin(c)
        if begun is None:
            return None
        if self.is_kept(c, begun):
            return ("kept", self.view.name, c)
        if self.is_ended(c, begun):
            return None
        due = self.due(c, begun)
        return ("late", self.view.name, c) if self.times[-1] > due else ("held", self.view.name, c, due)

    def is_ill(self):
        """Tell whether the letter's deed is ill."""
        deed = self.deeds[-1]
        if deed[0] not in ILLS:
            return False
        if deed[0] != "join" and deed[1] >= len(self.deal[3]):
            return True
        is_so = ILLS[deed[0]]
        return is_so(self, deed)

    def says(self, claim):
        """Tell whether a claim on this letter, no mark, is said."""
        if claim[0] == "ill":
            return self.is_ill()
        return claim[2] < len(self.deal[3]) and self.claim_on(claim[2]) == claim

    def claims(self):
        """List all claims on this letter, but for the marks."""
        found = [self.claim_on(c) for c in range(len(self.deal[3]))]
        found.append(("ill", self.view.name) if self.is_ill() else None)
        return [claim for claim in found if claim is not None]


def view_of(town, letters, name):
    """Tell the view from a letter; None where none but marks are said of it: no deal of the town, no beginning."""
    view = View(letters, name)
    return view if name[1] in town[1] and has_beginning(view.row) else None


def claims_among(town, letters, name):
    """List what the plain reading says of a letter among letters, a dict from names to them."""
    view = view_of(town, letters, name)
    return [] if view is None else Reader(town, view, {}).claims()


def claims_of(town, pile, name):
    """List what the plain reading says of a letter of a whole pile; what another pile has not isn't seen."""
    return in_order(claims_among(town, by_name(pile), name))


def read(town, pile, comings):
    """List all claims, those of the plain reading and the marks, of a whole pile."""
    letters = by_name(pile)
    found = marks(town, pile, comings)
    for name in letters:
        found.extend(claims_among(town, letters, name))
    return in_order(found)
