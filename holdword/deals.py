"""Words, deals and towns: which things are such, and when a deal ends."""

SMALL_LETTERS = "abcdefghijklmnopqrstuvwxyz"
LONGEST_WORD = 12
JUDGE = "bell"
MOST_HOUSES = 8
MOST_OTHERS = 4
MOST_CLAUSES = 12
MOST_PARTS = 9
MOST_CONDS = 8


def is_number(thing, least):
    """Tell whether the thing is a whole number of at least so many; truths are none."""
    return isinstance(thing, int) and not isinstance(thing, bool) and thing >= least


def is_number_below(thing, bound):
    """Tell whether the thing is a whole number from 0 that stands below the bound."""
    return is_number(thing, 0) and thing < bound


def is_row_of(thing, least, most):
    """Tell whether the thing is a tuple of at least and at most so many things."""
    return isinstance(thing, tuple) and least <= len(thing) <= most


def is_word(thing):
    """Tell, of anything, whether it is a word."""
    if not isinstance(thing, str) or not 1 <= len(thing) <= LONGEST_WORD:
        return False
    return all([sign in SMALL_LETTERS for sign in thing])


def are_words(thing, least, most):
    """Tell whether the thing is a tuple of so many words, all unlike."""
    if not is_row_of(thing, least, most) or not all([is_word(word) for word in thing]):
        return False
    return len(set(thing)) == len(thing)


def events_of(clause):
    """List the events that a clause bears: its conds, and that of its leave behind them."""
    conds, leave = clause[4:]
    return list(conds) + list(leave[:1])


def is_joined(event, own, deal):
    return len(event) == 2 and is_number_below(event[1], len(deal[0]))


def is_said(event, own, deal):
    return len(event) == 3 and is_number_below(event[1], len(deal[0])) and is_word(event[2])


def is_did(event, own, deal):
    """Tell whether a did fits the deal; of other deals their bounds alone are known here."""
    if len(event) != 4 or not is_number_below(event[1], len(deal[1]) + 1):
        return False
    k, c, p = event[1:]
    if k > 0:
        return is_number_below(c, MOST_CLAUSES) and is_number_below(p, MOST_PARTS)
    return is_number_below(c, len(deal[3])) and c != own and is_number_below(p, deal[3][c][2])


EVENTS = {"joined": is_joined, "said": is_said, "did": is_did}


def is_event(thing, own, deal):
    """Tell whether the thing is an event that clause number own of the deal may bear."""
    # A key that is no text may be one that no dict can be asked for.
    if not isinstance(thing, tuple) or not thing or not isinstance(thing[0], str) or thing[0] not in EVENTS:
        return False
    fits = EVENTS[thing[0]]
    return fits(thing, own, deal)


def is_leave(thing):
    """Tell whether the thing is a leave, but for its event."""
    return is_row_of(thing, 0, 0) or is_row_of(thing, 2, 2) and is_number(thing[1], 1)


def is_clause(thing, houses):
    """Tell whether the thing is a clause among so many houses, but for its events."""
    if not is_row_of(thing, 6, 6):
        return False
    debtor, creditor, parts, within, conds, leave = thing
    if not is_number_below(debtor, houses) or not is_number_below(creditor, houses) or debtor == creditor:
        return False
    if not is_number(parts, 1) or parts > MOST_PARTS or not is_number(within, 1):
        return False
    return is_row_of(conds, 0, MOST_CONDS) and is_leave(leave)


def has_good_events(own, deal):
    """Tell whether the events of clause number own fit the deal and are unlike."""
    events = events_of(deal[3][own])
    if not all([is_event(event, own, deal) for event in events]):
        return False
    return len(set(events)) == len(events)


def is_deal(thing):
    """Tell, of anything, whether it is a deal."""
    if not is_row_of(thing, 4, 4):
        return False
    houses, others, close, clauses = thing
    if not are_words(houses, 1, MOST_HOUSES) or JUDGE in houses or not are_words(others, 0, MOST_OTHERS):
        return False
    if not is_number(close, 0) or not is_row_of(clauses, 1, MOST_CLAUSES):
        return False
    # Events name clauses and parts, so all clauses are looked at ahead of any event.
    if not all([is_clause(clause, len(houses)) for clause in clauses]):
        return False
    return all([has_good_events(own, thing) for own in range(len(clauses))])


def is_there(event, deal, deals):
    """Tell whether what an event names in another deal is there."""
    if event[0] != "did" or event[1] == 0:
        return True
    k, c, p = event[1:]
    clauses = deals[deal[1][k - 1]][3]
    return c < len(clauses) and p < clauses[c][2]


def fits_town(name, deal, deals):
    """Tell whether the other deals that a deal speaks of are there, and it is none of them."""
    if not all([other in deals and other != name for other in deal[1]]):
        return False
    return all([is_there(event, deal, deals) for clause in deal[3] for event in events_of(clause)])


def is_town(thing):
    """Tell, of anything, whether it is a town."""
    if not is_row_of(thing, 2, 2) or not is_number(thing[0], 0) or not isinstance(thing[1], dict):
        return False
    deals = thing[1]
    if not all([is_word(name) and is_deal(deal) for name, deal in deals.items()]):
        return False
    return all([fits_town(name, deal, deals) for name, deal in deals.items()])


def own_town(town):
    """Tell a town that nothing done to the dict of the one handed in changes."""
    return (town[0], dict(town[1]))


def end_of(deal):
    """Tell the end of a deal: its close and the greatest within of its clauses."""
    return deal[2] + max([clause[3] for clause in deal[3]])
