"""Towns read from texts, row by row."""

from holdword.deals import JUDGE, MOST_CLAUSES, MOST_CONDS, MOST_HOUSES, MOST_OTHERS, MOST_PARTS, is_word
from holdword.errors import NoTown

FIGURES = "0123456789"

# The words that the rows use; a text names nothing by them.
ROW_WORDS = (
    "span", "deal", "houses", "others", "close", "to", "parts", "within", "if", "and", "leave", "after", "unless",
    "joined", "said", "did", "asks", "offers", "remind", "stands", "for",
)

# The forms of clauses behind their names; any word may stand where "" does.
FULL = ("", "to", "", "", "parts", "within", "")
ASKS = ("", "asks", "", "within", "")
OFFERS = ("", "offers", "", "", "parts", "within", "")
REMIND = ("remind", "", "within", "")
STANDS = ("", "stands", "for", "", "within", "")
LEAVE = ("leave", "after", "", "unless")


class DealDraft:
    """A deal as far as it has been read; clauses is a dict from their names to them."""

    def __init__(self, name):
        self.name = name
        self.houses = ()
        self.others = ()
        self.close = 0
        self.clauses = {}


class TownDraft:
    """A town as far as it has been read; its events still call the clauses by their names.

    named lists, row by row, what has to be there behind all rows: tuples (row, deal, clause, part), with None as
    clause and part where the deal alone is named.
    """

    def __init__(self):
        self.at = 0
        self.span = 0
        self.deals = {}
        self.deal = None
        self.named = []


def need(holds, at):
    """Refuse the row of that number unless it holds."""
    if not holds:
        raise NoTown(at)


def need_form(words, form, at):
    need(len(words) == len(form), at)
    need(all([part in ("", word) for part, word in zip(form, words)]), at)


def words_in(line):
    """List the words of a row: blanks, one or more, part them."""
    return [word for word in line.split(" ") if word]


def is_name(word):
    """Tell whether a text may name something by the word."""
    return is_word(word) and word not in ROW_WORDS


def is_figures(word):
    """Tell whether a text writes a number: no nought stands ahead of other figures."""
    return word == "0" or word != "" and word[0] != "0" and all([sign in FIGURES for sign in word])


def read_number(word, least, at):
    need(is_figures(word), at)
    number = int(word)
    need(number >= least, at)
    return number


def read_parts(word, at):
    """Read a number of parts, or of one of them counted from 1."""
    number = read_number(word, 1, at)
    need(number <= MOST_PARTS, at)
    return number


def read_names(words, most, at):
    """Read one or more names, all unlike."""
    need(1 <= len(words) <= most, at)
    need(all([is_name(word) for word in words]), at)
    need(len(set(words)) == len(words), at)
    return tuple(words)


def read_house(draft, word):
    need(word in draft.deal.houses, draft.at)
    return draft.deal.houses.index(word)


def read_pair(draft, debtor, creditor):
    """Read the two houses of a clause."""
    pair = (read_house(draft, debtor), read_house(draft, creditor))
    need(pair[0] != pair[1], draft.at)
    return pair


def read_did(draft, own, word, part):
    """Read a did of a clause, in this deal or another one, in the row of the clause called own."""
    deal, dot, clause = word.rpartition(".")
    if dot:
        need(deal in draft.deal.others, draft.at)
        k = draft.deal.others.index(deal) + 1
    else:
        need(clause != own, draft.at)
        deal = draft.deal.name
        k = 0
    need(is_name(clause), draft.at)
    p = read_parts(part, draft.at) - 1
    draft.named.append((draft.at, deal, clause, p))
    return ("did", k, clause, p)


def read_event(draft, own, words):
    """Read an event in the row of the clause called own."""
    if len(words) == 2:
        need(words[1] == "joined", draft.at)
        return ("joined", read_house(draft, words[0]))
    need(len(words) == 3, draft.at)
    if words[0] == "did":
        return read_did(draft, own, words[1], words[2])
    need(words[1] == "said" and is_name(words[2]), draft.at)
    return ("said", read_house(draft, words[0]), words[2])


def parted(words, mark):
    """Part a list of words at each mark."""
    parts = [[]]
    for word in words:
        if word == mark:
            parts.append([])
        else:
            parts[-1].append(word)
    return parts


def read_conds(draft, own, words):
    """Read the conds of a clause, from the if on; no words write none."""
    if not words:
        return ()
    need(words[0] == "if", draft.at)
    conds = [read_event(draft, own, part) for part in parted(words[1:], "and")]
    need(len(conds) <= MOST_CONDS and len(set(conds)) == len(conds), draft.at)
    return tuple(conds)


def read_leave(draft, own, words):
    """Read the leave of a clause; no words write none."""
    if not words:
        return ()
    need_form(words[:4], LEAVE, draft.at)
    wait = read_number(words[2], 1, draft.at)
    return (read_event(draft, own, words[4:]), wait)


def read_full(draft, own, words):
    at = draft.at
    need_form(words[:7], FULL, at)
    debtor, creditor = read_pair(draft, words[0], words[2])
    parts = read_parts(words[3], at)
    within = read_number(words[6], 1, at)
    # No event has the word leave in it: it is one that a text names nothing by.
    cut = words.index("leave") if "leave" in words else len(words)
    conds = read_conds(draft, own, words[7:cut])
    leave = read_leave(draft, own, words[cut:])
    need(not leave or leave[0] not in conds, at)
    return (debtor, creditor, parts, within, conds, leave)


def short_clause(pair, parts, within, own):
    """Tell the clause of a short row: the debtor owes where the creditor said the clause's own name."""
    debtor, creditor = pair
    return (debtor, creditor, parts, within, (("said", creditor, own),), ())


def read_asks(draft, own, words):
    need_form(words, ASKS, draft.at)
    pair = read_pair(draft, words[2], words[0])
    within = read_number(words[4], 1, draft.at)
    return short_clause(pair, 1, within, own)


def read_offers(draft, own, words):
    need_form(words, OFFERS, draft.at)
    pair = read_pair(draft, words[0], words[2])
    parts = read_parts(words[3], draft.at)
    within = read_number(words[6], 1, draft.at)
    return short_clause(pair, parts, within, own)


def read_ahead(draft, name):
    """Tell the clause of that name, which stands ahead in the deal."""
    need(name in draft.deal.clauses, draft.at)
    return draft.deal.clauses[name]


def read_remind(draft, own, words):
    need_form(words, REMIND, draft.at)
    pair = read_ahead(draft, words[1])[:2]
    within = read_number(words[3], 1, draft.at)
    return short_clause(pair, 1, within, own)


def read_stands(draft, own, words):
    need_form(words, STANDS, draft.at)
    debtor = read_house(draft, words[0])
    creditor, parts = read_ahead(draft, words[3])[1:3]
    need(debtor != creditor, draft.at)
    within = read_number(words[5], 1, draft.at)
    return short_clause((debtor, creditor), parts, within, own)


# The forms of clauses, by the second word behind the name.
CLAUSES = {"to": read_full, "asks": read_asks, "offers": read_offers, "stands": read_stands}


def read_clause(draft, words):
    """Read a clause's row, of any form."""
    at = draft.at
    clauses = draft.deal.clauses
    own = words[0][:-1]
    need(words[0].endswith(":") and is_name(own), at)
    need(own not in clauses and len(clauses) < MOST_CLAUSES and len(words) > 2, at)
    if words[1] == "remind":
        clauses[own] = read_remind(draft, own, words[1:])
    else:
        need(words[2] in CLAUSES, at)
        form = CLAUSES[words[2]]
        clauses[own] = form(draft, own, words[1:])
    return "more"


def read_span(draft, words):
    need_form(words, ("span", ""), draft.at)
    draft.span = read_number(words[1], 0, draft.at)
    return "deal"


def read_deal(draft, words):
    need_form(words, ("deal", ""), draft.at)
    need(is_name(words[1]) and words[1] not in draft.deals, draft.at)
    draft.deal = DealDraft(words[1])
    draft.deals[words[1]] = draft.deal
    return "houses"


def read_houses(draft, words):
    deal = draft.deal
    need(words[0] == "houses", draft.at)
    deal.houses = read_names(words[1:], MOST_HOUSES, draft.at)
    need(JUDGE not in deal.houses, draft.at)
    return "others"


def read_close(draft, words):
    deal = draft.deal
    need_form(words, ("close", ""), draft.at)
    deal.close = read_number(words[1], 0, draft.at)
    return "clause"


def read_others(draft, words):
    """Read the row of the others, or the one behind it where it is left out."""
    if words[0] != "others":
        return read_close(draft, words)
    deal = draft.deal
    deal.others = read_names(words[1:], MOST_OTHERS, draft.at)
    need(deal.name not in deal.others, draft.at)
    for other in deal.others:
        draft.named.append((draft.at, other, None, None))
    return "close"


def read_more(draft, words):
    """Read what stands behind a clause: another one, or the next deal."""
    if words[0] == "deal":
        return read_deal(draft, words)
    return read_clause(draft, words)


# What is read at each turn; each tells the turn behind it.
TURNS = {
    "span": read_span, "deal": read_deal, "houses": read_houses, "others": read_others, "close": read_close,
    "clause": read_clause, "more": read_more,
}


def need_named(draft):
    """Refuse the first row that names a deal, a clause or a part that isn't there."""
    for at, deal, clause, part in draft.named:
        need(deal in draft.deals, at)
        if clause is not None:
            clauses = draft.deals[deal].clauses
            need(clause in clauses and part < clauses[clause][2], at)


def numbered_event(event, deal, deals):
    """Tell an event of a deal with the number of its clause in the place of the name."""
    if event[0] != "did":
        return event
    k, clause, p = event[1:]
    there = deals[deal.others[k - 1]] if k > 0 else deal
    return ("did", k, list(there.clauses).index(clause), p)


def numbered_clause(clause, deal, deals):
    conds = tuple([numbered_event(event, deal, deals) for event in clause[4]])
    leave = clause[5]
    if leave:
        leave = (numbered_event(leave[0], deal, deals), leave[1])
    return clause[:4] + (conds, leave)


def finished_deal(deal, deals):
    clauses = [numbered_clause(clause, deal, deals) for clause in deal.clauses.values()]
    return (deal.houses, deal.others, deal.close, tuple(clauses))


def finished(draft):
    """Tell the town that has been read, and the names of its clauses."""
    deals = {name: finished_deal(deal, draft.deals) for name, deal in draft.deals.items()}
    names = {name: tuple(deal.clauses) for name, deal in draft.deals.items()}
    return ((draft.span, deals), names)


def read_town(text):
    """Read a text: a tuple of the town and the names of its clauses; what writes none is refused with NoTown."""
    if not isinstance(text, str):
        raise NoTown()
    draft = TownDraft()
    turn = "span"
    for at, line in enumerate(text.split("\n"), start=1):
        words = words_in(line)
        if words:
            draft.at = at
            read_row = TURNS[turn]
            turn = read_row(draft, words)
    if turn not in ("deal", "more"):
        raise NoTown()
    need_named(draft)
    return finished(draft)
