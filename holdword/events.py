"""Which letters clauses hang on. What is sought is a tuple: the houses whose letters count, their deal, their deed."""


def debtor_of(deal, c):
    """Tell the house that owes clause c of a deal."""
    return deal[0][deal[3][c][0]]


def creditor_of(deal, c):
    """Tell the house that is owed clause c of a deal."""
    return deal[0][deal[3][c][1]]


def letters_of(town, called, event):
    """Tell what is sought for an event of the deal that is called so."""
    deal = town[1][called]
    if event[0] == "joined":
        return ((deal[0][event[1]],), called, ("join",))
    if event[0] == "said":
        return ((deal[0][event[1]],), called, ("say", event[2]))
    k, c, p = event[1:]
    if k > 0:
        called = deal[1][k - 1]
        deal = town[1][called]
    return (tuple([house for house in deal[0] if house != creditor_of(deal, c)]), called, ("do", c, p))


def starting(town, house, called, c):
    """List what is sought till a house starts with clause c of the deal that is called so."""
    deal = town[1][called]
    debtor = debtor_of(deal, c)
    if house == debtor:
        return [((house,), called, ("join",))]
    if house in deal[0]:
        return [((house,), called, ("ready", c)), ((debtor,), called, ("hand", c, house))]
    # A stranger never starts, and letters of no house are never seen.
    return [((), called, ("join",))]


def beginning(town, house, called, c):
    """List what is sought till clause c begins for a house: all of it must be seen."""
    return starting(town, house, called, c) + [letters_of(town, called, cond) for cond in town[1][called][3][c][4]]


def freeing(town, called, c):
    """Tell what is sought where clause c is let off."""
    return ((creditor_of(town[1][called], c),), called, ("free", c))


def hindering(town, called, c):
    """List what is sought where clause c may not be quitted: the event of its leave, if there is one."""
    return [letters_of(town, called, event) for event in town[1][called][3][c][5][:1]]


def readying(house, called, c):
    """Tell what is sought where a house may be handed clause c."""
    return ((house,), called, ("ready", c))
