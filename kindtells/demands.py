"""Demands on arguments: each raises the error of what does not meet it."""

from kindtells.checks import are_numbers, first_twice, is_within
from kindtells.errors import BadNumber, NoPlace, NoThing, Twice

MOST_THINGS = 5
MOST_PLACES = 4


def demand_number(value, least, most, part):
    """An integer from least to most."""
    if not is_within(value, least, most):
        raise BadNumber(part)


def demand_world(things, part):
    """A number of things that a world can have."""
    demand_number(things, 1, MOST_THINGS, part)


def demand_many_places(places):
    """A number of places that a function can have."""
    demand_number(places, 1, MOST_PLACES, "places")


def demand_numbers(values, part):
    """A list of integers, perhaps an empty one."""
    if not are_numbers(values):
        raise BadNumber(part)


def demand_many_numbers(values, many, part):
    """A list of so many integers."""
    if not are_numbers(values) or len(values) != many:
        raise BadNumber(part)


def demand_things(values, things):
    """Integers that are things of a world of so many things."""
    for value in values:
        if not is_within(value, 0, things - 1):
            raise NoThing(value)


def demand_place(value, places):
    """One of so many places."""
    if not is_within(value, 0, places - 1):
        raise NoPlace(value)


def demand_unlike_places(values, places, part):
    """A list of unlike places, of so many places."""
    demand_numbers(values, part)
    for value in values:
        demand_place(value, places)
    twice = first_twice(values)
    if twice is not None:
        raise Twice(twice)


def demand_row(row):
    """A list of as many integers as a function can have places, any integers."""
    if not are_numbers(row) or not 1 <= len(row) <= MOST_PLACES:
        raise BadNumber("row")
