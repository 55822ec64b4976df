"""With which leads told functions go along, and which manners they keep."""

from kindtells.errors import BadLead, Misfit
from kindtells.leads import Lead
from kindtells.manners import demand_manner, demand_two, few_rows
from kindtells.papers import Denial, Paper, fixed
from kindtells.rows import led_indices, row_at, row_index
from kindtells.told import demand_told


class Kept(Paper):
    """The manner is kept."""

    def __init__(self):
        Paper.__init__(self, "kept")


class Parting(Denial):
    """At the input row a function parts from the lead."""

    def __init__(self, lead, row):
        Denial.__init__(self, "parting", lead, row)
        self.lead = fixed(lead)
        self.row = fixed(row)


def parts_at(begin, into, lead, row):
    """Whether the told function into, over the world to which the lead goes, is not at the led input
    row what begin, over the world in which it begins, is led to."""
    led_row = [lead.row[thing] for thing in row]
    value = begin.tells[row_index(row, begin.things)]
    return into.tells[row_index(led_row, into.things)] != lead.row[value]


def first_parting(begin, into, lead_row):
    """The first input over the world of begin at which these two told functions part from the lead with this row,
    which leads from this world to that of into; None without one."""
    led = [into.tells[index] for index in led_indices(lead_row, into.things, begin.places)]
    asked = [lead_row[value] for value in begin.tells]
    if led == asked:
        return None
    index = [one != other for one, other in zip(led, asked)].index(True)
    return row_at(index, begin.things, begin.places)


def parting_row(told, lead):
    """The first input at which the told function parts from the lead; None if it goes along."""
    demand_told(told)
    if type(lead) is not Lead:
        raise BadLead("lead")
    if lead.begin != told.things or lead.into != told.things:
        raise Misfit("things")
    return first_parting(told, told, lead.row)


def demand_told_manner(told, manner):
    """A told function, and a manner that can be asked over its world."""
    demand_told(told)
    demand_manner(manner, "manner")
    demand_two(manner, (told.things,))


def kept(told, manner):
    """The Kept if the told function keeps the manner; otherwise a Parting."""
    demand_told_manner(told, manner)
    # All leads of the manner come of its few leads: who goes along with these goes along with all.
    for lead_row in few_rows(manner, told.things):
        row = first_parting(told, told, lead_row)
        if row is not None:
            return Parting(Lead(told.things, lead_row), row)
    return Kept()


def keeps(told, manner):
    """Whether the told function keeps the manner."""
    return bool(kept(told, manner))
