"""Topmost manners: those that a told function keeps, and that no other one which it keeps is above."""

from kindtells.along import kept
from kindtells.demands import demand_world
from kindtells.errors import BadManner
from kindtells.manners import demand_two
from kindtells.papers import Paper, fixed
from kindtells.told import demand_told

# For each of the eight manners, in the order of MANNERS, those that it is above: in worlds of three things or more.
BELOW = {
    "blind": ("rank", "either", "least", "ends", "one", "two", "alike"),
    "rank": ("least", "ends"),
    "either": ("rank", "least", "ends"),
    "least": ("ends",),
    "ends": (),
    "one": ("least", "ends", "two"),
    "two": (),
    "alike": (),
}
# Over two things several have the same leads, and so the same manners below them.
BELOW_OVER_TWO = {
    "blind": ("rank", "least", "ends", "one", "two", "alike"),
    "rank": ("least", "ends", "one", "two"),
    "either": ("rank", "least", "ends", "one", "two", "alike"),
    "least": ("ends", "two"),
    "ends": (),
    "one": ("ends", "two"),
    "two": (),
    "alike": ("ends", "two"),
}


class Ladder(Paper):
    """These are the topmost manners; and a Parting for each manner that is not kept."""

    def __init__(self, manners, partings):
        Paper.__init__(self, "ladder", manners, partings)
        self.manners = fixed(manners)
        self.partings = fixed(partings)


def demand_ladder_manner(manner, part):
    """One of the manners other than order."""
    if not isinstance(manner, str) or manner not in BELOW:
        raise BadManner(part)


def manners_below(manner, things):
    """The manners that this one is above, in a world of so many things."""
    if things == 1:
        return ()
    return BELOW_OVER_TWO[manner] if things == 2 else BELOW[manner]


def is_above(manner, other, things):
    """Whether the manner is above the other one in a world of so many things."""
    demand_ladder_manner(manner, "manner")
    demand_ladder_manner(other, "other")
    demand_world(things, "things")
    demand_two(manner, (things,))
    demand_two(other, (things,))
    return other in manners_below(manner, things)


def ladder_papers(told):
    """For each manner that is asked over the world of a told function, in their order, what kept tells of it."""
    demand_told(told)
    return {manner: kept(told, manner) for manner in BELOW if manner != "two" or told.things > 1}


def kept_manners(told):
    """The tuple of the manners other than order that the told function keeps."""
    return tuple([manner for manner, paper in ladder_papers(told).items() if paper])


def topmost_of(papers, things):
    """The list of those manners that have a true paper, and that no other such one is above."""
    kept_ones = [manner for manner, paper in papers.items() if paper]
    below = [other for manner in kept_ones for other in manners_below(manner, things)]
    return [manner for manner in kept_ones if manner not in below]


def ladder(told):
    """The Ladder of a told function."""
    papers = ladder_papers(told)
    return Ladder(topmost_of(papers, told.things), [paper for paper in papers.values() if not paper])
