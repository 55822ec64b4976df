"""Leads from the things of a world to the things of a world."""

from kindtells.checks import are_numbers
from kindtells.demands import MOST_THINGS, demand_numbers, demand_things, demand_world
from kindtells.errors import BadLead, BadNumber, Misfit
from kindtells.texts import Items, spaced


class Lead:
    """A lead into a world of so many things; its row tells for each thing to which one it is led."""

    def __init__(self, into, row):
        demand_world(into, "into")
        if not are_numbers(row) or not 1 <= len(row) <= MOST_THINGS:
            raise BadNumber("row")
        demand_things(row, into)
        self.begin = len(row)
        self.into = into
        self.row = tuple(row)

    def __eq__(self, other):
        return type(other) is Lead and self.into == other.into and self.row == other.row

    def __str__(self):
        return f"{spaced(self.row)} : {self.into}"

    @staticmethod
    def read(text):
        """The lead whose text this is."""
        reading = Items(text)
        row = [reading.take_number(0, MOST_THINGS - 1)]
        while len(row) < MOST_THINGS and not reading.stands(":"):
            row.append(reading.take_number(0, MOST_THINGS - 1))
        reading.take(":")
        into = reading.take_number(max(row) + 1, MOST_THINGS)
        reading.take_end()
        return Lead(into, row)

    def of(self, values):
        """The tuple of the things to which these things are led."""
        demand_numbers(values, "values")
        demand_things(values, self.begin)
        return tuple([self.row[value] for value in values])

    def then(self, other):
        """The lead that is the other one behind this one."""
        if type(other) is not Lead:
            raise BadLead("other")
        if other.begin != self.into:
            raise Misfit("things")
        return Lead(other.into, other.of(self.row))


def idle(things):
    """The lead that leads each thing of a world to itself."""
    demand_world(things, "things")
    return Lead(things, list(range(things)))
