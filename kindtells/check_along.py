"""Which papers show that a told function keeps a manner, or parts from it."""

from kindtells.along import Kept, Parting, demand_told_manner, keeps, parts_at
from kindtells.checks import is_within
from kindtells.leads import Lead
from kindtells.manners import row_is_of


def is_row(value, things, places):
    """Whether it is an input of so many places over a world of so many things."""
    if not isinstance(value, (list, tuple)) or len(value) != places:
        return False
    return all([is_within(thing, 0, things - 1) for thing in value])


def shows_parting(begin, into, manner, lead, row):
    """Whether this is a Lead of the manner from the world of the told function begin to that of into,
    and an input at which they part."""
    if type(lead) is not Lead or lead.begin != begin.things or lead.into != into.things:
        return False
    if not row_is_of(lead.row, lead.into, manner) or not is_row(row, begin.things, begin.places):
        return False
    return parts_at(begin, into, lead, row)


def shows_kept(told, manner, value):
    """Whether the value is a right paper of whether the told function keeps the manner."""
    demand_told_manner(told, manner)
    # Its lead and its input alone show a Parting: whether the manner is kept is found out for a Kept only.
    if type(value) is Parting:
        return shows_parting(told, told, manner, value.lead, value.row)
    return type(value) is Kept and keeps(told, manner)
