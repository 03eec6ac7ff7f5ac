"""Who stands where: what houses are held to by their last letters, and who has taken up a clause."""

from holdword.events import debtor_of
from holdword.judging import told_on
from holdword.letters import name_of
from holdword.perhaps import begins
from holdword.piles import by_name, followed
from holdword.rows import has_beginning, row_among

# A word ahead of another one holds where both are told of one deal, house and clause.
WORDS = ("late", "silent", "held")


def tips(letters):
    """List the names of letters, a dict from names to them, that no other one follows on."""
    after = {followed(letter): True for letter in letters.values() if followed(letter) != name_of(letter)}
    return [name for name in letters if name not in after]


def word_of(claim, span, now):
    """Tell the word for a claim on a tip at a time; None where it says nothing of where its house stands."""
    if claim[0] == "held" and claim[3] + span < now:
        return "silent"
    return claim[0] if claim[0] in WORDS else None


def foremost(words):
    """Tell that of some words, at least one, which holds."""
    return [word for word in WORDS if word in words][0]


def standing(town, pile, comings, now):
    """List, sorted, where houses stand at a time: tuples (deal, house, c, word)."""
    letters = by_name(pile)
    found = {}
    for house, deal, nr in tips(letters):
        for claim in told_on(town, letters, (house, deal, nr)):
            word = word_of(claim, town[0], now)
            if word is not None:
                found.setdefault((deal, house, claim[2]), []).append(word)
    return sorted([place + (foremost(words),) for place, words in found.items()])


def takers(town, pile, deal, c):
    """Tell two sorted lists of houses, never the debtor's: those that may have begun clause c, and the sure ones."""
    if deal not in town[1] or c >= len(town[1][deal][3]):
        return ([], [])
    letters = by_name(pile)
    debtor = debtor_of(town[1][deal], c)
    found = {}
    for name in letters:
        if name[0] != debtor and name[1] == deal and has_beginning(row_among(letters, name)):
            found.setdefault(name[0], []).append(begins(town, pile, name, c))
    may = [house for house, many in found.items() if any([places != [None] for places in many])]
    sure = [house for house, many in found.items() if any([None not in places for places in many])]
    return (sorted(may), sorted(sure))
