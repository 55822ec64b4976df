"""Which papers show that a family keeps a manner, or parts from it, and what fills it."""

from kindtells.along import Kept, Parting, keeps
from kindtells.check_along import is_row, shows_parting
from kindtells.families import demand_family_manner, family_kept
from kindtells.filling import Filled, Many, NoFill, demand_filling, things_left
from kindtells.leads import Lead
from kindtells.rows import row_index
from kindtells.told import Told


def shows_family_kept(family, manner, value):
    """Whether the value is a right paper of whether the family keeps the manner."""
    demand_family_manner(family, manner)
    if type(value) is Kept:
        return bool(family_kept(family, manner))
    if type(value) is not Parting or type(value.lead) is not Lead:
        return False
    lead = value.lead
    if lead.begin not in family.worlds or lead.into not in family.worlds:
        return False
    return shows_parting(family.member(lead.begin), family.member(lead.into), manner, lead, value.row)


def is_asked(told, family, things):
    """Whether it is a Told over so many things with as many places as the family has."""
    return type(told) is Told and told.things == things and told.places == family.places


def is_left(told, left):
    """Whether the told function tells at each input a thing that is left there."""
    return all([value in few for value, few in zip(told.tells, left)])


def shows_one_filling(family, manner, things, told):
    """Whether this alone fills the family."""
    if not is_asked(told, family, things):
        return False
    left = things_left(family, manner, things)
    # The one thing left at each input fills the family, and nothing else does.
    return all([len(few) == 1 for few in left]) and is_left(told, left)


def shows_two_filling(family, manner, things, one, other):
    """Whether these two are unlike told functions that fill the family."""
    if not is_asked(one, family, things) or not is_asked(other, family, things) or one == other:
        return False
    left = things_left(family, manner, things)
    return all([is_left(told, left) and keeps(told, manner) for told in (one, other)])


def shows_none_filling(family, manner, things, row):
    """Whether this is an input over the asked world at which all things are barred."""
    if not is_row(row, things, family.places):
        return False
    return not things_left(family, manner, things)[row_index(row, things)]


def shows_filled(family, manner, things, value):
    """Whether the value is a right paper of what fills the family in the manner over so many things."""
    demand_filling(family, manner, things)
    if type(value) is Filled:
        return shows_one_filling(family, manner, things, value.told)
    if type(value) is Many:
        return shows_two_filling(family, manner, things, value.one, value.other)
    return type(value) is NoFill and shows_none_filling(family, manner, things, value.row)
