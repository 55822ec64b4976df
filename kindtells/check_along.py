"""Which papers show that a told function keeps a manner, or parts from it."""

from kindtells.along import Kept, Parting, keeps, parts_at
from kindtells.checks import are_numbers, is_within
from kindtells.leads import Lead
from kindtells.manners import is_of


def is_row(value, things, places):
    """Whether it is an input of so many places over a world of so many things."""
    return are_numbers(value) and len(value) == places and all([is_within(thing, 0, things - 1) for thing in value])


def shows_parting(begin, into, manner, lead, row):
    """Whether this is a Lead of the manner from the world of the told function begin to that of into,
    and an input at which they part."""
    if type(lead) is not Lead or lead.begin != begin.things or lead.into != into.things:
        return False
    return is_of(lead, manner) and is_row(row, begin.things, begin.places) and parts_at(begin, into, lead, row)


def shows_kept(told, manner, value):
    """Whether the value is a right paper of whether the told function keeps the manner."""
    # Asked first: wrong arguments raise their errors whatever the value is.
    is_kept = keeps(told, manner)
    if type(value) is Kept:
        return is_kept
    return type(value) is Parting and shows_parting(told, told, manner, value.lead, value.row)
