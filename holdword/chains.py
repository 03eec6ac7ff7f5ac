"""Chains: some letters by which alone a claim is told, and none of which can be left out."""

from holdword.claims import is_claim, is_mark, names_in
from holdword.letters import name_of
from holdword.looking import takes
from holdword.piles import by_name
from holdword.rows import row, seen


def bearing(pile, claim):
    """Tell a dict from names to letters: those of a pile that a claim can hang on."""
    letters = {}
    for name in names_in(claim):
        letters.update(by_name(seen(pile, name)))
    return letters


def always_needed(pile, claim):
    """List letters that no chain of a told claim can be without."""
    # Nothing but marks is told of a letter whose row lacks its beginning; of marks each letter is tried.
    return [] if is_mark(claim) else row(pile, claim[1])


def is_told(asked, letters):
    town, comings, claim = asked
    return takes(town, claim, letters, comings)


def needed(asked, kept, some):
    """List those of some letters without any one of which, beside the kept, what is asked isn't told any more.

    It is told of all of them. With fewer letters less is told, so what can't be left out now never can.
    """
    if is_told(asked, kept):
        return []
    if len(some) == 1:
        return some
    half = len(some) // 2
    first = needed(asked, kept + some[half:], some[:half])
    return first + needed(asked, kept + first, some[half:])


def chain(town, pile, comings, claim):
    """List the letters of a chain of a claim, sorted by names; None where it isn't told or no claim."""
    if not is_claim(claim):
        return None
    letters = bearing(pile, claim)
    asked = (town, comings, claim)
    if not is_told(asked, list(letters.values())):
        return None
    kept = always_needed(list(letters.values()), claim)
    # Letters of one row stand together, so that what doesn't count is left out many at a time.
    some = [letters[name] for name in sorted(letters) if letters[name] not in kept]
    return sorted(kept + needed(asked, kept, some), key=name_of)
