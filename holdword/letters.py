"""Letters and their deeds: which things are such, and how letters are named."""

from holdword.deals import JUDGE, MOST_CLAUSES, MOST_PARTS, is_number, is_number_below, is_row_of, is_word

MOST_GOTS = 30


def is_clause_number(thing):
    return is_number_below(thing, MOST_CLAUSES)


def is_bare(parts):
    return len(parts) == 0


def is_of_word(parts):
    return len(parts) == 1 and is_word(parts[0])


def is_of_clause(parts):
    return len(parts) == 1 and is_clause_number(parts[0])


def is_of_part(parts):
    return len(parts) == 2 and is_clause_number(parts[0]) and is_number_below(parts[1], MOST_PARTS)


def is_of_house(parts):
    return len(parts) == 2 and is_clause_number(parts[0]) and is_word(parts[1]) and parts[1] != JUDGE


# What must stand behind the word of each deed.
DEEDS = {
    "join": is_bare, "say": is_of_word, "do": is_of_part, "free": is_of_clause, "ready": is_of_clause,
    "hand": is_of_house, "quit": is_of_clause, "note": is_bare,
}


def is_deed(thing):
    """Tell, of anything, whether it is a deed."""
    # A key that is no text may be one that no dict can be asked for.
    if not isinstance(thing, tuple) or not thing or not isinstance(thing[0], str) or thing[0] not in DEEDS:
        return False
    fits = DEEDS[thing[0]]
    return fits(thing[1:])


def is_letter_name(thing):
    """Tell, of anything, whether a letter may be named so."""
    return is_row_of(thing, 3, 3) and is_word(thing[0]) and is_word(thing[1]) and is_number(thing[2], 1)


def are_gots(thing, house, deal):
    """Tell whether the thing may be the gots of a letter of that house and deal."""
    if not is_row_of(thing, 0, MOST_GOTS) or not all([is_letter_name(name) for name in thing]):
        return False
    if not all([low < high for low, high in zip(thing, thing[1:])]):
        return False
    return all([name[:2] != (house, deal) for name in thing])


def is_letter(thing):
    """Tell, of anything, whether it is a letter."""
    if not is_row_of(thing, 7, 7) or not is_letter_name(thing[:3]):
        return False
    house, deal, nr, prev, gots, time, deed = thing
    return is_number(prev, 0) and are_gots(gots, house, deal) and is_number(time, 0) and is_deed(deed)


def name_of(letter):
    """Tell the name of a letter: its house, its deal and its nr."""
    return letter[:3]
