"""Told manners: their functions, the leads of these, and whether two have the same functions."""

from kindtells.along import first_parting
from kindtells.closed import (
    TOLD_WORLDS, closed_rows, demand_leads, demand_one_world, demand_told_manner, leads_by, unlike_rows)
from kindtells.demands import demand_number
from kindtells.errors import BadTold, Misfit, TooMany
from kindtells.links import Links, all_ways, many_ways, one_way
from kindtells.papers import Denial, Paper, fixed
from kindtells.rows import all_rows, led_indices
from kindtells.told import Told, are_tolds

MOST_FUNCTIONS = 500
# The functions of a told manner have so many places at most; those of so many tell its leads alone.
MOST_MANNER_PLACES = 2


class Same(Paper):
    """Both told manners have the same functions."""

    def __init__(self):
        Paper.__init__(self, "same")


class Unlike(Denial):
    """This is a function of one told manner alone."""

    def __init__(self, told):
        Denial.__init__(self, "unlike", told)
        self.told = fixed(told)


def links_along(leads, places):
    """The links of inputs by a told manner; of so many places."""
    demand_leads(leads, "leads")
    demand_number(places, 1, MOST_MANNER_PLACES, "places")
    demand_one_world(leads)
    return Links(unlike_rows(leads), leads[0].into, places)


def functions_along(leads, places):
    """The tuple of all told functions of so many places that go along with each of the leads."""
    links = links_along(leads, places)
    if many_ways(links, links.may_be) > MOST_FUNCTIONS:
        raise TooMany("functions", MOST_FUNCTIONS)
    return tuple([Told(leads[0].into, places, tells) for tells in all_ways(links)])


def many_along(leads, places):
    """How many such functions there are."""
    links = links_along(leads, places)
    return many_ways(links, links.may_be)


def leads_along(functions):
    """The tuple of all leads of their world to itself with which all of the functions go along."""
    if not are_tolds(functions, None):
        raise BadTold("functions")
    things = functions[0].things
    if things not in TOLD_WORLDS or any([told.things != things for told in functions]):
        raise Misfit("things")
    rows = all_rows(things, things)
    unlike = {(told.places, told.tells): told for told in functions}
    for told in unlike.values():
        rows = [row for row in rows if first_parting(told, told, row) is None]
    return leads_by(rows, things)


def many_functions(rows, things):
    """How many functions of two places go along with the leads that have these rows."""
    links = Links(rows, things, MOST_MANNER_PLACES)
    return many_ways(links, links.may_be)


def manner_of(leads):
    """The tuple of the leads that a told manner tells."""
    demand_told_manner(leads)
    things = leads[0].into
    rows = unlike_rows(leads)
    come = closed_rows(rows, things)
    many = many_functions(rows, things)
    # A lead is one of those of the functions if with it, too, there are as many functions.
    told = [row for row in all_rows(things, things) if row in come or many_functions(rows + [row], things) == many]
    return leads_by(told, things)


def demand_two_manners(one, other):
    """Two told manners of one world."""
    demand_leads(one, "one")
    demand_leads(other, "other")
    demand_one_world(list(one) + list(other))


def have_same_functions(one, other):
    """Whether two told manners of one world have the same functions."""
    things = one[0].into
    rows, others = unlike_rows(one), unlike_rows(other)
    # With the leads of both there are just the functions that both have.
    both = many_functions(rows + others, things)
    return many_functions(rows, things) == both and many_functions(others, things) == both


def function_beside(rows, row, things):
    """A told function of two places that goes along with the leads of these rows, and parts from the one of this row;
    None without one."""
    links = Links(rows, things, MOST_MANNER_PLACES)
    for at, led in enumerate(led_indices(row, things, MOST_MANNER_PLACES)):
        for value in links.may_be[at]:
            worths = [worth for worth in links.may_be[led] if worth != row[value] and (led != at or worth == value)]
            way = one_way(links, {**links.may_be, at: [value], led: worths})
            if way is not None:
                return Told(things, MOST_MANNER_PLACES, way)
    return None


def function_of_one_alone(one, other):
    """A told function of two places that is one of the first told manner alone; None without one."""
    things = one[0].into
    rows = unlike_rows(one)
    for row in unlike_rows(other):
        told = function_beside(rows, row, things)
        if told is not None:
            return told
    return None


def compared_manners(one, other):
    """The Same if both told manners have the same functions; otherwise an Unlike."""
    demand_two_manners(one, other)
    if have_same_functions(one, other):
        return Same()
    told = function_of_one_alone(one, other)
    return Unlike(function_of_one_alone(other, one) if told is None else told)
