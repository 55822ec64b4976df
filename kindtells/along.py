"""With which leads told functions go along, and which manners they keep."""

from kindtells.errors import BadLead, BadTold, Misfit
from kindtells.leads import Lead
from kindtells.manners import demand_manner, demand_two, few_leads
from kindtells.papers import Denial, Paper, fixed
from kindtells.rows import all_rows, row_index
from kindtells.told import Told


class Kept(Paper):
    """The manner is kept."""

    def __init__(self):
        Paper.__init__(self, "kept")


class Parting(Denial):
    """At the input row a function parts from the lead."""

    def __init__(self, lead, row):
        Denial.__init__(self, "parting", lead, row)
        self.lead = fixed(lead)
        self.row = fixed(row)


def parts_at(begin, into, lead, row):
    """Whether the told function into, over the world to which the lead goes, is not at the led input
    row what begin, over the world in which it begins, is led to."""
    led_row = [lead.row[thing] for thing in row]
    value = begin.tells[row_index(row, begin.things)]
    return into.tells[row_index(led_row, into.things)] != lead.row[value]


def first_parting(begin, into, lead):
    """The first input over the world in which the lead begins at which these two part; None without one."""
    for row in all_rows(begin.things, begin.places):
        if parts_at(begin, into, lead, row):
            return row
    return None


def parting_row(told, lead):
    """The first input at which the told function parts from the lead; None if it goes along."""
    if type(told) is not Told:
        raise BadTold("told")
    if type(lead) is not Lead:
        raise BadLead("lead")
    if lead.begin != told.things or lead.into != told.things:
        raise Misfit("things")
    return first_parting(told, told, lead)


def kept(told, manner):
    """The Kept if the told function keeps the manner; otherwise a Parting."""
    if type(told) is not Told:
        raise BadTold("told")
    demand_manner(manner, "manner")
    demand_two(manner, (told.things,))
    # All leads of the manner come of its few leads: who goes along with these goes along with all.
    for lead in few_leads(manner, told.things):
        row = first_parting(told, told, lead)
        if row is not None:
            return Parting(lead, row)
    return Kept()


def keeps(told, manner):
    """Whether the told function keeps the manner."""
    return bool(kept(told, manner))
