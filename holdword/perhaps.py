"""What may be in a pile with gaps: by which places events may be seen, and at which ones clauses may begin."""

from holdword.events import beginning, letters_of
from holdword.piles import by_name
from holdword.reading import Reader
from holdword.rows import View


def options(view, sought):
    """List the places by which what is sought may be seen first: rising, the sure one, or None, last."""
    return view.perhaps_places(sought) + [view.sure_place(sought)]


def supposing(supposed, sought, at):
    """Tell what is supposed, and this besides."""
    more = dict(supposed)
    more[sought] = at
    return more


def ways_to_see_all(view, many):
    """List suppositions, one for each place by which many sought may all be seen first, and one for none."""
    early = {sought: options(view, sought)[0] for sought in many}
    firsts = list(early.values())
    if firsts == [] or None in firsts:
        return [{}]
    ways = {}
    for sought in many:
        for at in options(view, sought):
            # The others are all seen by the greatest of the firsts, so from there on this one is the last.
            if at is None or at >= max(firsts):
                ways[at] = supposing(early, sought, at)
    return list(ways.values())


def places(town, pile, name, event):
    """Tell the sure place of an event, or None, and a list of its perhaps places, in a row that has its beginning."""
    view = View(by_name(pile), name)
    sought = letters_of(town, name[1], event)
    return (view.sure_place(sought), view.perhaps_places(sought))


def begins(town, pile, name, c):
    """List the places at which clause c may begin, rising, None last, in a row that has its beginning."""
    if not 0 <= c < len(town[1][name[1]][3]):
        return [None]
    view = View(by_name(pile), name)
    ways = ways_to_see_all(view, beginning(town, name[0], name[1], c))
    found = [Reader(town, view, supposed).begin(c) for supposed in ways]
    known = sorted({at for at in found if at is not None})
    return known + [None] if None in found else known
