"""Towns shown as texts that read so again."""


def shown_event(event, name, deal, names):
    """Show an event of the deal of that name."""
    if event[0] == "joined":
        return f"{deal[0][event[1]]} joined"
    if event[0] == "said":
        return f"{deal[0][event[1]]} said {event[2]}"
    k, c, p = event[1:]
    if k == 0:
        return f"did {names[name][c]} {p + 1}"
    other = deal[1][k - 1]
    return f"did {other}.{names[other][c]} {p + 1}"


def shown_clause(c, name, deal, names):
    """Show clause number c of the deal of that name as a row in full."""
    debtor, creditor, parts, within, conds, leave = deal[3][c]
    text = f"{names[name][c]}: {deal[0][debtor]} to {deal[0][creditor]} {parts} parts within {within}"
    if conds:
        text += " if " + " and ".join([shown_event(event, name, deal, names) for event in conds])
    if leave:
        text += f" leave after {leave[1]} unless " + shown_event(leave[0], name, deal, names)
    return text


def shown_deal(name, deal, names):
    """Show a deal as a list of rows."""
    houses, others, close, clauses = deal
    shown = [f"deal {name}", "houses " + " ".join(houses)]
    if others:
        shown.append("others " + " ".join(others))
    shown.append(f"close {close}")
    return shown + [shown_clause(c, name, deal, names) for c in range(len(clauses))]


def shown_town(town, names):
    """Show a town as a text; names tells, for each deal, the names of its clauses."""
    span, deals = town
    shown = [f"span {span}"]
    for name, deal in deals.items():
        shown.extend(shown_deal(name, deal, names))
    return "\n".join(shown)
