"""Marks: what letters by themselves, and their comings, say against their houses."""

from holdword.claims import in_order
from holdword.deals import JUDGE
from holdword.letters import name_of
from holdword.piles import by_name, followed
from holdword.rows import row_among


def is_back(letters, letter):
    """Tell whether a letter's time is below that of the one that it follows on."""
    ahead = followed(letter)
    return ahead in letters and letter[5] < letters[ahead][5]


def is_loose(letters, letter):
    """Tell whether the letters that a letter follows on come back to it."""
    name = name_of(letter)
    return followed(row_among(letters, name)[0]) == name


def is_behind(letters, letter, span):
    """Tell whether a letter got one of the judge's with a time above its own and the span."""
    times = [letters[got][5] for got in letter[4] if got in letters and got[0] == JUDGE]
    return any([time > letter[5] + span for time in times])


def is_ahead(comings, letter, span):
    """Tell whether a letter's time is above that at which it came and the span."""
    name = name_of(letter)
    return name in comings and letter[5] > comings[name] + span


def twins(letters):
    """List the claims on letters of one house and deal that follow on the same one, or on none."""
    after = {}
    for name in sorted(letters):
        after.setdefault(followed(letters[name]), []).append(name)
    return [("twin", name, other) for names in after.values() for at, name in enumerate(names)
            for other in names[at + 1:]]


def marks_of(letters, letter, comings, span):
    """List the claims on one letter alone."""
    name = name_of(letter)
    said = {
        "back": is_back(letters, letter), "loose": is_loose(letters, letter),
        "behind": is_behind(letters, letter, span), "ahead": is_ahead(comings, letter, span),
    }
    return [(word, name) for word, is_so in said.items() if is_so]


def marks(town, pile, comings):
    """List the claims that need no reading, of any pile; of letters that it has not nothing is said."""
    letters = by_name(pile)
    found = twins(letters)
    for letter in letters.values():
        found.extend(marks_of(letters, letter, comings, town[0]))
    return in_order(found)
