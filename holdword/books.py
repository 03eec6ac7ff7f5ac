"""Books: dicts from letters to the times at which they came."""

from holdword.chains import chain
from holdword.errors import NoPile
from holdword.letters import name_of


def comings_of(book):
    """Tell the comings of a book: a dict from the names of its letters to their times."""
    return {name_of(letter): time for letter, time in book.items()}


def joined(books):
    """Tell a book with all letters of a list of books, each with its least time; NoPile where they don't fit."""
    letters = {}
    times = {}
    for book in books:
        for letter, time in book.items():
            if letters.setdefault(name_of(letter), letter) != letter:
                raise NoPile()
            times[letter] = min(times.get(letter, time), time)
    return times


def short(town, book, claims):
    """Tell a book cut short: just the letters of the chains of those of the claims that are told of it."""
    comings = comings_of(book)
    kept = {}
    for claim in claims:
        links = chain(town, list(book), comings, claim)
        if links is not None:
            kept.update({letter: book[letter] for letter in links})
    return kept
