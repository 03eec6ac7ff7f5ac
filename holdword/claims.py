"""Claims: which things are such by their form, and how they are told."""

from holdword.deals import is_number
from holdword.letters import is_clause_number, is_letter_name


def is_of_due(parts):
    return len(parts) == 3 and is_letter_name(parts[0]) and is_clause_number(parts[1]) and is_number(parts[2], 0)


def is_of_clause(parts):
    return len(parts) == 2 and is_letter_name(parts[0]) and is_clause_number(parts[1])


def is_of_name(parts):
    return len(parts) == 1 and is_letter_name(parts[0])


def is_of_two_names(parts):
    return len(parts) == 2 and is_letter_name(parts[0]) and is_letter_name(parts[1])


# What must stand behind the word of each claim: those of the plain reading, then those of the marks.
READ_FORMS = {"held": is_of_due, "kept": is_of_clause, "late": is_of_clause, "ill": is_of_name}
MARK_FORMS = {
    "back": is_of_name, "twin": is_of_two_names, "loose": is_of_name, "behind": is_of_name, "ahead": is_of_name,
}


def is_claim(thing):
    """Tell, of anything, whether it is a claim by its form."""
    # A key that is no text may be one that no dict can be asked for.
    if not isinstance(thing, tuple) or not thing or not isinstance(thing[0], str):
        return False
    if thing[0] in READ_FORMS:
        fits = READ_FORMS[thing[0]]
        return fits(thing[1:])
    if thing[0] in MARK_FORMS:
        fits = MARK_FORMS[thing[0]]
        return fits(thing[1:])
    return False


def is_mark(claim):
    """Tell whether a claim is one of the marks, which hang on no town but its span."""
    return claim[0] in MARK_FORMS


def names_in(claim):
    """List the names of letters that a claim bears."""
    return [part for part in claim[1:] if isinstance(part, tuple)]


def in_order(claims):
    """List claims as they are told: sorted, each once."""
    return sorted(set(claims))
