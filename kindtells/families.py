"""Families: told functions over several worlds."""

from kindtells.along import Kept, Parting, first_parting
from kindtells.checks import first_twice, is_integer
from kindtells.errors import BadFamily, BadTold, Misfit, NoWorld, Twice
from kindtells.leads import Lead
from kindtells.manners import demand_manner, demand_two, few_rows, row_is_of
from kindtells.rows import rising_rows
from kindtells.told import are_tolds


class Family:
    """Told functions of as many places, one over each of some unlike worlds."""

    def __init__(self, members):
        if not are_tolds(members, None):
            raise BadTold("members")
        twice = first_twice([told.things for told in members])
        if twice is not None:
            raise Twice(twice)
        if any([told.places != members[0].places for told in members]):
            raise Misfit("places")
        self.members = tuple(sorted(members, key=lambda told: told.things))
        self.worlds = tuple([told.things for told in self.members])
        self.places = members[0].places

    def __eq__(self, other):
        return type(other) is Family and self.members == other.members

    def member(self, things):
        """The member over a world of so many things."""
        if not is_integer(things) or things not in self.worlds:
            raise NoWorld(things)
        return self.members[self.worlds.index(things)]


def between_rows(manner, begin, into):
    """The rows of leads of the manner from a world to another one, of which all others come, behind or ahead of
    leads of the greater world to itself."""
    if manner == "order":
        return rising_rows(begin, into)
    row = tuple([min(thing, into - 1) for thing in range(begin)])
    if manner == "ends":
        row = row[:-1] + (into - 1,)
    return [row] if row_is_of(row, into, manner) else []


def enough_rows(manner, begin, into):
    """The rows of leads of the manner between two worlds of a family that are enough to ask."""
    if begin == into:
        return few_rows(manner, begin)
    return between_rows(manner, begin, into)


def demand_family(family):
    """A family."""
    if type(family) is not Family:
        raise BadFamily("family")


def demand_family_manner(family, manner):
    """A family, and a manner that can be asked over its worlds."""
    demand_family(family)
    demand_manner(manner, "manner")
    demand_two(manner, family.worlds)


def family_kept(family, manner):
    """The Kept if the family keeps the manner; otherwise a Parting."""
    demand_family_manner(family, manner)
    for begin in family.members:
        for into in family.members:
            for lead_row in enough_rows(manner, begin.things, into.things):
                row = first_parting(begin, into, lead_row)
                if row is not None:
                    return Parting(Lead(into.things, lead_row), row)
    return Kept()
