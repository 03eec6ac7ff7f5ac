"""Piles by which a claim that the judge doesn't tell is otherwise."""

from holdword.claims import is_claim, names_in
from holdword.judging import way_out
from holdword.piles import by_name, gaps


class Numbers:
    """Tells nrs of letters that bear none of the names that are taken, each once."""

    def __init__(self, taken):
        self.taken = {name: True for name in taken}
        self.last = {}

    def fresh(self, house, deal):
        """Tell the least nr that is left to a house in a deal."""
        nr = self.last.get((house, deal), 0) + 1
        while (house, deal, nr) in self.taken:
            nr += 1
        self.last[(house, deal)] = nr
        return nr


def letters_behind(gap, deeds, numbers):
    """List a letter for a gap, and letters with the deeds, at least one, that it follows on one behind another."""
    house, deal, nr = gap
    nrs = [nr] + [numbers.fresh(house, deal) for deed in deeds]
    # The last one follows on itself: no row through the gap has a beginning, and only fresh letters are twins of it.
    prevs = nrs[1:] + nrs[-1:]
    return [(house, deal, own, prev, (), 0, deed) for own, prev, deed in zip(nrs, prevs, [("note",)] + deeds)]


def filled(pile, wanted, barred):
    """Tell a whole pile with all letters of a pile, the wanted deeds behind its gaps, and no other barred names."""
    letters = by_name(pile)
    missing = gaps(pile)
    numbers = Numbers(list(letters) + missing + barred)
    for gap in missing:
        letters.update(by_name(letters_behind(gap, wanted.get(gap, [("note",)]), numbers)))
    return [letters[name] for name in sorted(letters)]


def otherwise(town, pile, comings, claim):
    """Tell a whole pile with all letters of the pile of which a claim isn't said; None where it is told or no claim."""
    if not is_claim(claim):
        return None
    wanted = way_out(town, pile, comings, claim)
    return None if wanted is None else filled(pile, wanted, names_in(claim))
