"""Which papers show whether two told manners have the same functions."""

from kindtells.agreed import MOST_MANNER_PLACES, Same, Unlike, demand_two_manners, have_same_functions
from kindtells.along import first_parting
from kindtells.told import Told


def goes_along_all(told, leads):
    """Whether the told function goes along with all of the leads, from its world to itself."""
    return all([first_parting(told, told, lead.row) is None for lead in leads])


def shows_unlike(one, other, told):
    """Whether this is a told function of one or two places that is one of just one of the told manners."""
    if type(told) is not Told or told.things != one[0].into or told.places > MOST_MANNER_PLACES:
        return False
    return goes_along_all(told, one) != goes_along_all(told, other)


def shows_compared(one, other, value):
    """Whether the value is a right paper of whether two told manners have the same functions."""
    demand_two_manners(one, other)
    if type(value) is Unlike:
        return shows_unlike(one, other, value.told)
    return type(value) is Same and have_same_functions(one, other)
