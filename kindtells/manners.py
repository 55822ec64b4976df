"""Manners: which leads are of each, and the few of which all of them come in one world."""

from kindtells.demands import demand_world
from kindtells.errors import BadLead, BadManner, Misfit
from kindtells.leads import Lead
from kindtells.rows import all_rows

MANNERS = ("blind", "rank", "either", "least", "ends", "one", "two", "alike", "order")


def demand_manner(manner, part):
    """One of the manners."""
    if not isinstance(manner, str) or manner not in MANNERS:
        raise BadManner(part)


def demand_two(manner, worlds):
    """The manner two asks for worlds of two things or more."""
    if manner == "two" and 1 in worlds:
        raise Misfit("things")


def never_falls(row):
    """Whether no thing of the row is less than the one ahead of it."""
    return all([one <= other for one, other in zip(row, row[1:])])


def never_rises(row):
    """Whether no thing of the row is greater than the one ahead of it."""
    return all([one >= other for one, other in zip(row, row[1:])])


def rises(row):
    """Whether each thing of the row is greater than the one ahead of it."""
    return all([one < other for one, other in zip(row, row[1:])])


def row_is_of(row, into, manner):
    """Whether the lead with this row, into a world of so many things, is of the manner."""
    if manner == "blind":
        return True
    if manner == "rank":
        return never_falls(row)
    if manner == "either":
        return never_falls(row) or never_rises(row)
    if manner == "least":
        return never_falls(row) and row[0] == 0
    if manner == "ends":
        return never_falls(row) and row[0] == 0 and row[-1] == into - 1
    if manner == "one":
        return row[0] == 0
    if manner == "two":
        return row[:2] == (0, 1)
    if manner == "alike":
        return rises(sorted(row))
    return rises(row)


def is_of(lead, manner):
    """Whether the lead is of the manner."""
    if type(lead) is not Lead:
        raise BadLead("lead")
    demand_manner(manner, "manner")
    demand_two(manner, (lead.begin, lead.into))
    return row_is_of(lead.row, lead.into, manner)


def leads(manner, begin, into):
    """The tuple of all leads of the manner from a world of begin things to one of into things."""
    demand_manner(manner, "manner")
    demand_world(begin, "begin")
    demand_world(into, "into")
    demand_two(manner, (begin, into))
    return tuple([Lead(into, row) for row in all_rows(into, begin) if row_is_of(row, into, manner)])


def many_leads(manner, begin, into):
    """How many leads of the manner there are."""
    return len(leads(manner, begin, into))


def put_row(things, thing, other):
    """The row that puts the one thing on the other one, and leaves all others where they are."""
    return tuple([other if at == thing else at for at in range(things)])


def exchange_row(things, thing, other):
    """The row that exchanges two things, and leaves all others where they are."""
    row = list(range(things))
    row[thing], row[other] = other, thing
    return tuple(row)


def candidate_rows(manner, things):
    """Rows among which those of the few leads of the manner are the ones of this manner."""
    lower = range(things - 1)
    exchanged = [exchange_row(things, thing, thing + 1) for thing in lower]
    put_down = [put_row(things, thing + 1, thing) for thing in lower]
    put_up = [put_row(things, thing, thing + 1) for thing in lower]
    if manner == "order":
        return []
    if manner == "alike":
        return exchanged
    if manner == "two" and things > 2:
        return exchanged + put_down + [put_row(things, 2, 0)]
    if manner in ("blind", "one", "two"):
        return exchanged + put_down
    if manner == "either" and things > 1:
        return put_down + put_up + [tuple(range(things))[::-1]]
    return put_down + put_up


def few_rows(manner, things):
    """The rows of the few leads of the manner in a world, ascending."""
    return sorted([row for row in candidate_rows(manner, things) if row_is_of(row, things, manner)])


def few_leads(manner, things):
    """The tuple of the few leads of the manner in a world, each once, by their rows ascending."""
    demand_manner(manner, "manner")
    demand_world(things, "things")
    demand_two(manner, (things,))
    return tuple([Lead(things, row) for row in few_rows(manner, things)])
