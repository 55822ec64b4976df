"""Families: told functions over several worlds."""

from kindtells.along import Kept, Parting, first_parting
from kindtells.checks import first_twice, is_integer
from kindtells.errors import BadFamily, BadTold, Misfit, NoWorld, Twice
from kindtells.leads import Lead
from kindtells.manners import demand_manner, demand_two, few_leads, is_of, leads
from kindtells.told import Told


def are_members(value):
    """Whether it is a list of one Told or more."""
    return isinstance(value, (list, tuple)) and len(value) > 0 and all([type(told) is Told for told in value])


class Family:
    """Told functions of as many places, one over each of some unlike worlds."""

    def __init__(self, members):
        if not are_members(members):
            raise BadTold("members")
        twice = first_twice([told.things for told in members])
        if twice is not None:
            raise Twice(twice)
        if any([told.places != members[0].places for told in members]):
            raise Misfit("places")
        self.members = tuple(sorted(members, key=lambda told: told.things))
        self.worlds = tuple([told.things for told in self.members])
        self.places = members[0].places

    def __eq__(self, other):
        return type(other) is Family and self.members == other.members

    def member(self, things):
        """The member over a world of so many things."""
        if not is_integer(things) or things not in self.worlds:
            raise NoWorld(things)
        return self.members[self.worlds.index(things)]


def between_leads(manner, begin, into):
    """Leads of the manner from a world to another one, of which all others come, behind or ahead of leads
    of the greater world to itself."""
    if manner == "order":
        return leads(manner, begin, into)
    row = [min(thing, into - 1) for thing in range(begin)]
    if manner == "ends":
        row[-1] = into - 1
    lead = Lead(into, row)
    return (lead,) if is_of(lead, manner) else ()


def enough_leads(manner, begin, into):
    """Leads of the manner between two worlds of a family that are enough to ask."""
    if begin == into:
        return few_leads(manner, begin)
    return between_leads(manner, begin, into)


def family_kept(family, manner):
    """The Kept if the family keeps the manner; otherwise a Parting."""
    if type(family) is not Family:
        raise BadFamily("family")
    demand_manner(manner, "manner")
    demand_two(manner, family.worlds)
    for begin in family.members:
        for into in family.members:
            for lead in enough_leads(manner, begin.things, into.things):
                row = first_parting(begin, into, lead)
                if row is not None:
                    return Parting(lead, row)
    return Kept()
