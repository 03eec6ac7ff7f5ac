"""Piles of letters: which things are such, and what they lack."""

from holdword.letters import is_letter, name_of


def is_pile(thing):
    """Tell, of anything, whether it is a pile."""
    if not isinstance(thing, list) or not all([is_letter(letter) for letter in thing]):
        return False
    letters = by_name(thing)
    return all([letters[name_of(letter)] == letter for letter in thing])


def by_name(pile):
    """Tell a dict from the names of the letters of a pile to them."""
    return {name_of(letter): letter for letter in pile}


def followed(letter):
    """Tell the name that a letter follows on; where its prev is 0 no letter bears it."""
    return (letter[0], letter[1], letter[3])


def asked_by(letter):
    """List the names of the letters that a letter speaks of: its prev, where there is one, and its gots."""
    gots = list(letter[4])
    return gots if letter[3] == 0 else [followed(letter)] + gots


def gaps(pile):
    """List, rising, the names that a pile has not and that are prevs or gots of its letters."""
    letters = by_name(pile)
    return sorted({name for letter in pile for name in asked_by(letter) if name not in letters})


def is_whole(pile):
    """Tell whether a pile has all that its letters follow on and got."""
    return gaps(pile) == []
