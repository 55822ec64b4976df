"""Which told functions over a further world fill a family in a manner."""

from kindtells.demands import demand_world
from kindtells.errors import Impossible, TooMany, Twice
from kindtells.families import demand_family, family_kept
from kindtells.manners import demand_manner, demand_two, row_is_of
from kindtells.papers import Denial, Paper, fixed
from kindtells.patterns import growing_rows
from kindtells.rows import all_rows, led_indices, many_rows, rising_rows
from kindtells.told import Told

MOST_FILLING_VALUES = 125


class Filled(Paper):
    """Just this told function fills the family."""

    def __init__(self, told):
        Paper.__init__(self, "filled", told)
        self.told = fixed(told)


class Many(Paper):
    """These two told functions fill the family, and perhaps others."""

    def __init__(self, one, other):
        Paper.__init__(self, "many", one, other)
        self.one = fixed(one)
        self.other = fixed(other)


class NoFill(Denial):
    """At this input over the asked world all things are barred."""

    def __init__(self, row):
        Denial.__init__(self, "nofill", row)
        self.row = fixed(row)


def demand_filling(family, manner, things):
    """A family that keeps the manner, and a further world that can be asked for."""
    demand_family(family)
    demand_manner(manner, "manner")
    demand_world(things, "things")
    if things in family.worlds:
        raise Twice(things)
    demand_two(manner, family.worlds + (things,))
    if many_rows(things, family.places) > MOST_FILLING_VALUES:
        raise TooMany("values", MOST_FILLING_VALUES)
    paper = family_kept(family, manner)
    if not paper:
        raise Impossible(paper)


def telling_rows(manner, begin, into):
    """The rows of leads of the manner between the asked world and one of the family that bar whatever any lead bars.

    All others are one of these with a lead of the manner in the family's own world behind it, if it leads there, or
    ahead of it, if it leads from there. The member goes along with that lead; so they bar nothing more."""
    if begin < into:
        rows = rising_rows(begin, into)
    else:
        rows = [row for row in growing_rows(begin) if max(row) + 1 == into]
    return [row for row in rows if row_is_of(row, into, manner)]


def things_left(family, manner, things):
    """For each input over the asked world the list of the things that no lead bars; the family keeps the manner."""
    left = [list(range(things)) for _ in range(many_rows(things, family.places))]
    for member in family.members:
        for row in telling_rows(manner, things, member.things):
            for at, index in enumerate(led_indices(row, member.things, family.places)):
                value = member.tells[index]
                left[at] = [thing for thing in left[at] if row[thing] == value]
        for row in telling_rows(manner, member.things, things):
            for at, index in enumerate(led_indices(row, things, family.places)):
                value = row[member.tells[at]]
                left[index] = [thing for thing in left[index] if thing == value]
    return left


def filling_by_place(family, things, left, place):
    """The told function that tells at each input the one thing left, or else what stands at this place."""
    rows = all_rows(things, family.places)
    return Told(things, family.places, [few[0] if len(few) == 1 else row[place] for row, few in zip(rows, left)])


def other_filling(family, manner, things, left):
    """Where several fill the family, one beside that of place 0."""
    # These manners can leave several with one place, but their workers know the thing 0.
    if manner in ("least", "ends", "one"):
        return Told(things, family.places, [0] * len(left))
    return filling_by_place(family, things, left, 1)


def filled(family, manner, things):
    """The Filled, if just one told function over so many things fills the family in the manner; the Many of two, if
    several do; the NoFill of an input at which all things are barred, if none does."""
    demand_filling(family, manner, things)
    left = things_left(family, manner, things)
    for row, few in zip(all_rows(things, family.places), left):
        if not few:
            return NoFill(row)
    one = filling_by_place(family, things, left, 0)
    if all([len(few) == 1 for few in left]):
        return Filled(one)
    # Several fill it. In alike and order all things are left where no lead leads to or from a told world, and there
    # things at places will do. In other manners the told world has one thing alone, and all their workers fill it.
    return Many(one, other_filling(family, manner, things, left))
