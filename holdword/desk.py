"""The desk: told rows, it answers by texts."""

from holdword.books import comings_of
from holdword.chains import chain
from holdword.deals import end_of
from holdword.errors import NoRow, NoTown
from holdword.judges import Judge
from holdword.otherwise import otherwise
from holdword.standing import standing
from holdword.texts import is_figures, read_town, words_in
from holdword.writing import read_claim, read_letter, shown_claim, shown_letter


def listed(texts):
    """Tell an answer of a row for each text, or the sign that there is none."""
    return "\n".join(texts) if texts else "-"


def is_bare(words):
    return len(words) == 1


def is_of_one(words):
    return len(words) == 2


def is_of_text(words):
    return len(words) > 1


def is_of_number(words):
    return len(words) == 2 and is_figures(words[1])


def is_of_letter(words):
    return len(words) > 2 and words[1].endswith(":") and is_figures(words[1][:-1])


# The form of each row, by its first word; that of a town has a line feed, and is told by itself.
FORMS = {
    "came": is_of_letter, "told": is_bare, "why": is_of_text, "unless": is_of_text, "standing": is_of_number,
    "end": is_of_one, "cut": is_bare,
}


def is_form(words):
    """Tell whether words make a row of a told form, whatever its texts write."""
    if not words or words[0] not in FORMS:
        return False
    fits = FORMS[words[0]]
    return fits(words)


def answer_came(judge, words):
    letter = read_letter(" ".join(words[2:]))
    return listed([shown_claim(claim) for claim in judge.come(letter, int(words[1][:-1]))])


def answer_told(judge, words):
    return listed([shown_claim(claim) for claim in judge.told()])


def answer_why(judge, words):
    claim = read_claim(" ".join(words[1:]))
    book = judge.book()
    links = chain(judge.town, list(book), comings_of(book), claim)
    return "not told" if links is None else listed([shown_letter(letter) for letter in links])


def answer_unless(judge, words):
    claim = read_claim(" ".join(words[1:]))
    book = judge.book()
    whole = otherwise(judge.town, list(book), comings_of(book), claim)
    return "told" if whole is None else listed([shown_letter(letter) for letter in whole])


def answer_standing(judge, words):
    book = judge.book()
    found = standing(judge.town, list(book), comings_of(book), int(words[1]))
    return listed([f"{deal} {house} {c} {word}" for deal, house, c, word in found])


def answer_end(judge, words):
    deals = judge.town[1]
    if words[1] not in deals:
        raise NoTown()
    return f"{end_of(deals[words[1]])}"


def answer_cut(judge, words):
    judge.cut()
    return "ok"


ANSWERS = {
    "came": answer_came, "told": answer_told, "why": answer_why, "unless": answer_unless,
    "standing": answer_standing, "end": answer_end, "cut": answer_cut,
}


class Desk:
    """Has a judge of the town that it was told last; None ahead of the first one."""

    def __init__(self):
        self.judge = None

    def begin_anew(self, text):
        """Take a town by its text, with an empty book."""
        town, names = read_town(text)
        self.judge = Judge(town)
        return f"{len(town[1])} deals"

    def say(self, row):
        """Answer a row; one that is of no told form is refused with NoRow."""
        if not isinstance(row, str):
            raise NoRow()
        head, feed, text = row.partition("\n")
        if feed and words_in(head) == ["town"]:
            return self.begin_anew(text)
        words = words_in(row)
        if not is_form(words):
            raise NoRow()
        if self.judge is None:
            raise NoTown()
        answer = ANSWERS[words[0]]
        return answer(self.judge, words)
