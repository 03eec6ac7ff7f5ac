"""Letters and claims shown as texts, and read from them."""

from holdword.claims import is_claim
from holdword.errors import NoLetter
from holdword.letters import is_letter
from holdword.texts import is_figures, words_in

# What stands behind the word of each deed; "to" stands there itself.
DEED_FORMS = {
    "join": (), "say": ("word",), "do": ("number", "number"), "free": ("number",), "ready": ("number",),
    "hand": ("number", "to", "word"), "quit": ("number",), "note": (),
}


def need(holds):
    """Refuse what is read unless it holds."""
    if not holds:
        raise NoLetter()


def shown_name(name):
    house, deal, nr = name
    return f"{house}.{deal}.{nr}"


def shown_part(part):
    """Show what stands in a claim: a word, a name or a number."""
    return shown_name(part) if isinstance(part, tuple) else f"{part}"


def shown_deed(deed):
    if deed[0] == "hand":
        return f"hand {deed[1]} to {deed[2]}"
    return " ".join([f"{part}" for part in deed])


def shown_letter(letter):
    """Show a letter as a text."""
    house, deal, nr, prev, gots, time, deed = letter
    text = f"{house} {deal} {nr}"
    if prev != 0:
        text += f" after {prev}"
    if gots:
        text += " got " + " ".join([shown_name(name) for name in gots])
    return text + f" at {time}: " + shown_deed(deed)


def shown_claim(claim):
    """Show a claim as a text."""
    return " ".join([shown_part(part) for part in claim])


def words_of(text):
    """List the words of what should be a text."""
    need(isinstance(text, str))
    return words_in(text)


def read_number(word):
    need(is_figures(word))
    return int(word)


def read_name(word):
    """Read the name of a letter, as far as its dots and its nr go."""
    parts = word.split(".")
    need(len(parts) == 3)
    return (parts[0], parts[1], read_number(parts[2]))


def read_prev(words):
    """Read what a letter follows on, from the head of some words: its nr, or 0, and the words behind it."""
    if words[:1] != ["after"]:
        return (0, words)
    need(len(words) > 1)
    prev = read_number(words[1])
    # That a letter follows on none is written by no word at all.
    need(prev > 0)
    return (prev, words[2:])


def read_gots(words):
    """Read what a letter got, from the head of some words: the names, and the words from the time's on."""
    if words[:1] != ["got"]:
        return ((), words)
    need("at" in words)
    cut = words.index("at")
    need(cut > 1)
    return (tuple([read_name(word) for word in words[1:cut]]), words[cut:])


def read_deed(words):
    """Read a deed, as far as its form goes."""
    need(words[0] in DEED_FORMS)
    form = DEED_FORMS[words[0]]
    need(len(words) == len(form) + 1)
    deed = [words[0]]
    for kind, word in zip(form, words[1:]):
        if kind == "to":
            need(word == "to")
        else:
            deed.append(read_number(word) if kind == "number" else word)
    return tuple(deed)


def read_letter(text):
    """Read a letter; what writes none is refused, of anything, with NoLetter."""
    words = words_of(text)
    need(len(words) > 3)
    house, deal = words[:2]
    nr = read_number(words[2])
    prev, words = read_prev(words[3:])
    gots, words = read_gots(words)
    need(len(words) > 2 and words[0] == "at" and words[1].endswith(":"))
    letter = (house, deal, nr, prev, gots, read_number(words[1][:-1]), read_deed(words[2:]))
    # The bounds, and that names are rising and none of its own house and deal, are those of letters.
    need(is_letter(letter))
    return letter


def read_claim(text):
    """Read a claim; what writes none by its form is refused, of anything, with NoLetter."""
    words = words_of(text)
    parts = [read_name(word) if "." in word else read_number(word) for word in words[1:]]
    claim = tuple(words[:1] + parts)
    need(is_claim(claim))
    return claim
