"""The judge: what is so of a pile whatever the letters that he doesn't see may be.

Through a gap any deeds of its house in its deal may be seen, and those of one gap say nothing of those of another.
"""

from holdword.claims import in_order, is_mark
from holdword.events import beginning, freeing, hindering, readying
from holdword.marks import marks
from holdword.perhaps import options, supposing, ways_to_see_all
from holdword.piles import by_name
from holdword.reading import Reader, view_of


def ill_hangs_on(town, view):
    """Tell what is sought, all of it, lest the letter's deed be ill, and what is sought that makes it so."""
    house, called, nr = view.name
    deed = view.row[-1][6]
    if deed[0] not in ("do", "hand", "quit") or deed[1] >= len(town[1][called][3]):
        return ([], [])
    if deed[0] == "hand":
        return ([readying(deed[2], called, deed[1])], [])
    return (beginning(town, house, called, deed[1]), hindering(town, called, deed[1]))


def hangs_on(town, view, claim):
    """Tell what a claim on the letter hangs on: sought that count when all are seen, and ones that count each."""
    if claim[0] == "ill":
        return ill_hangs_on(town, view)
    house, called, nr = view.name
    c = claim[2]
    if c >= len(town[1][called][3]):
        return ([], [])
    return (beginning(town, house, called, c), [freeing(town, called, c)] + hindering(town, called, c))


def suppositions(town, view, claim):
    """List suppositions about what the gaps hide: a claim that is said by all of them is said whatever they hide."""
    together, each = hangs_on(town, view, claim)
    ways = ways_to_see_all(view, together)
    for sought in each:
        # Such letters count the more the earlier they are seen, so the first and the last place stand for all.
        choices = options(view, sought)
        ways = [supposing(way, sought, at) for way in ways for at in choices[:1] + choices[1:][-1:]]
    return ways


def doubt(town, view, claim):
    """Tell a supposition by which a claim on the letter, no mark, isn't said; None where it is told."""
    for supposed in suppositions(town, view, claim):
        if not Reader(town, view, supposed).says(claim):
            return supposed
    return None


def deeds_behind(view, supposed):
    """Tell a dict from gaps to the deeds of letters behind them by which all comes as it is supposed."""
    wanted = {}
    for sought, at in supposed.items():
        if at != view.sure_place(sought):
            ends = [gap for first, gap in view.open_ends(sought) if first == at]
            wanted.setdefault(ends[0], []).append(sought[2])
    return wanted


def way_out(town, pile, comings, claim):
    """Tell deeds behind gaps by which a claim by its form isn't said, where no row through a gap has a beginning.

    None where it is told. A mark needs no deeds: what the pile itself doesn't say letters of time 0 don't either.
    """
    if is_mark(claim):
        return None if claim in marks(town, pile, comings) else {}
    view = view_of(town, by_name(pile), claim[1])
    if view is None:
        return {}
    supposed = doubt(town, view, claim)
    return None if supposed is None else deeds_behind(view, supposed)


def told_on(town, letters, name):
    """List the claims on a letter, but for marks, that are told by letters, a dict from names to them."""
    view = view_of(town, letters, name)
    if view is None:
        return []
    # What is told is said where the gaps hide nothing, too.
    said = Reader(town, view, {}).claims()
    return [claim for claim in said if doubt(town, view, claim) is None]


def told(town, pile, comings):
    """List the claims that are said of each whole pile that has all letters of the pile."""
    letters = by_name(pile)
    found = marks(town, pile, comings)
    for name in letters:
        found.extend(told_on(town, letters, name))
    return in_order(found)
