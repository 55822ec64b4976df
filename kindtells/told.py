"""Told functions: all values of a function over one world."""

from kindtells.checks import is_within
from kindtells.demands import (
    MOST_PLACES, MOST_THINGS, demand_many_numbers, demand_many_places, demand_things, demand_unlike_places,
    demand_world)
from kindtells.errors import BadTold, Misfit, TooMany
from kindtells.rows import all_rows, many_rows, row_index
from kindtells.texts import Items, spaced

MOST_VALUES = 256


def demand_few_values(things, places):
    """No more values than a told function may have."""
    if many_rows(things, places) > MOST_VALUES:
        raise TooMany("values", MOST_VALUES)


def inputs(things, places):
    """The tuple of all inputs, ascending."""
    demand_world(things, "things")
    demand_many_places(places)
    demand_few_values(things, places)
    return tuple(all_rows(things, places))


def most_places(things):
    """How many places a told function over a world of so many things can have at most."""
    return max([places for places in range(1, MOST_PLACES + 1) if many_rows(things, places) <= MOST_VALUES])


class Told:
    """A told function: its values stand as its inputs ascend."""

    def __init__(self, things, places, tells):
        demand_world(things, "things")
        demand_many_places(places)
        demand_many_numbers(tells, many_rows(things, places), "tells")
        demand_things(tells, things)
        demand_few_values(things, places)
        self.things = things
        self.places = places
        self.tells = tuple(tells)

    def __eq__(self, other):
        if type(other) is not Told:
            return False
        return self.things == other.things and self.places == other.places and self.tells == other.tells

    def __str__(self):
        return f"{self.things} {self.places} : {spaced(self.tells)}"

    @staticmethod
    def read(text):
        """The told function whose text this is."""
        reading = Items(text)
        things = reading.take_number(1, MOST_THINGS)
        places = reading.take_number(1, most_places(things))
        reading.take(":")
        tells = [reading.take_number(0, things - 1) for _ in range(many_rows(things, places))]
        reading.take_end()
        return Told(things, places, tells)

    def at(self, row):
        """The value at an input."""
        demand_many_numbers(row, self.places, "row")
        demand_things(row, self.things)
        return self.tells[row_index(row, self.things)]

    def swapped(self, order):
        """The told function whose place k is the place order[k] of this one."""
        demand_unlike_places(order, self.places, "order")
        if len(order) < self.places:
            raise Misfit("places")
        stands_at = [order.index(place) for place in range(self.places)]
        rows = all_rows(self.things, self.places)
        return Told(self.things, self.places, [self.at([row[place] for place in stands_at]) for row in rows])


def demand_told(told):
    """A told function."""
    if type(told) is not Told:
        raise BadTold("told")


def are_tolds(value, most):
    """Whether it is a list of one told function to so many; None is no bound."""
    if not isinstance(value, (list, tuple)) or not is_within(len(value), 1, most):
        return False
    return all([type(told) is Told for told in value])
