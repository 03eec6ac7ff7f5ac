"""Rows of letters in a pile, what is seen by them, and the places of events."""

from holdword.piles import by_name, followed


def row_among(letters, name):
    """Tell the row of a name among letters, a dict from names to letters."""
    found = {}
    while name in letters and name not in found:
        found[name] = letters[name]
        name = followed(letters[name])
    return list(found.values())[::-1]


def row(pile, name):
    """Tell the row of a name in a pile, from its first letter to that of the name; [] where it has none."""
    return row_among(by_name(pile), name)


def seen_with(letters, letter):
    """List what is seen by a place in a row beyond the places ahead of it: its letter, and the rows of its gots."""
    found = [letter]
    for got in letter[4]:
        found.extend(row_among(letters, got))
    return found


def seen(pile, name):
    """List the letters, sorted by names, that are seen by the place of a letter in its row."""
    letters = by_name(pile)
    found = {}
    for letter in row_among(letters, name):
        found.update(by_name(seen_with(letters, letter)))
    return [found[other] for other in sorted(found)]


def letters_of(town, name, event):
    """Tell which letters are an event of the deal of that name: a tuple of their houses, their deal and their deed."""
    deal = town[1][name]
    if event[0] == "joined":
        return ((deal[0][event[1]],), name, ("join",))
    if event[0] == "said":
        return ((deal[0][event[1]],), name, ("say", event[2]))
    k, c, p = event[1:]
    if k > 0:
        name = deal[1][k - 1]
        deal = town[1][name]
    creditor = deal[0][deal[3][c][1]]
    return (tuple([house for house in deal[0] if house != creditor]), name, ("do", c, p))


def is_one_of(letter, sought):
    """Tell whether a letter is among those sought: a tuple of houses, a deal and a deed."""
    houses, deal, deed = sought
    return letter[0] in houses and letter[1] == deal and letter[6] == deed


def place(town, pile, name, event):
    """Tell the first place, in the row of a letter, by which an event of its deal is seen; None where it isn't."""
    letters = by_name(pile)
    sought = letters_of(town, name[1], event)
    for at, letter in enumerate(row_among(letters, name), start=1):
        if any([is_one_of(other, sought) for other in seen_with(letters, letter)]):
            return at
    return None
