"""Which papers show what is made of told functions."""

from kindtells.checks import is_within
from kindtells.made import IsPlace, Lot, Made, Makes, all_made, growth_of
from kindtells.merged import place_of, sort_of
from kindtells.steps import are_steps, place_values, values_by_steps
from kindtells.told import Told, demand_told


def steps_make(functions, steps, wished):
    """Whether these are steps that make the wished function of those, over one world; or none, and it is a place."""
    if not are_steps(steps, functions, wished.places):
        return False
    if len(steps) == 0:
        return place_of(wished) is not None
    return values_by_steps(functions, steps, wished.places) == wished.tells


def shows_sort(told, name, steps, made):
    """Whether these steps make, of the told function alone, this one, and it is of the sort of this name."""
    if not isinstance(name, str) or type(made) is not Told or made.things != told.things:
        return False
    # What is of a sort is no place; so it takes steps.
    return sort_of(made) == name and steps_make([told], steps, made)


def shows_makes(told, value):
    """Whether the value is a right paper of what the told function makes."""
    demand_told(told)
    if type(value) is Makes:
        return shows_sort(told, value.name, value.steps, value.told)
    if type(value) is not IsPlace or not is_within(value.place, 0, told.places - 1):
        return False
    return place_values(told.things, told.places)[value.place] == told.tells


def is_all_made(growth, functions):
    """Whether it is a list of just all functions that are made, ascending."""
    if not isinstance(functions, (list, tuple)) or not all([type(told) is Told for told in functions]):
        return False
    return list(functions) == all_made(growth)


def shows_made(functions, wished, value):
    """Whether the value is a right paper of whether the functions make what is wished."""
    growth = growth_of(functions, wished)
    if type(value) is Made:
        return steps_make(functions, value.steps, wished)
    if type(value) is not Lot or growth.number_of(wished.tells) is not None:
        return False
    return is_all_made(growth, value.functions)
