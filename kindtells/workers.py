"""Workers: functions told for all worlds at once; the first two sorts, places and known things."""

from kindtells.demands import (
    demand_many_numbers, demand_many_places, demand_number, demand_place, demand_things, demand_world)
from kindtells.errors import Misfit
from kindtells.told import Told, inputs


def demand_input(worker, row, things):
    """An input of the worker over a world of so many things."""
    demand_many_numbers(row, worker.places, "row")
    demand_world(things, "things")
    demand_things(row, things)


def told_over(worker, things):
    """The Told of all values of the worker over a world."""
    demand_world(things, "things")
    rows = inputs(things, worker.places)
    return Told(things, worker.places, [worker.at(row, things) for row in rows])


class Worker:
    """The base of all workers; each class below tells its own values."""

    def __init__(self, places):
        demand_many_places(places)
        self.places = places

    def __eq__(self, other):
        return type(self) is type(other) and self.places == other.places

    def at(self, row, things):
        """The value at an input over a world of so many things."""
        raise NotImplementedError("each class of workers tells its own values")

    def over(self, things):
        """The Told of all values over a world of so many things."""
        return told_over(self, things)


class Place(Worker):
    """Tells what stands at one place of the input."""

    def __init__(self, places, place):
        Worker.__init__(self, places)
        demand_place(place, places)
        self.place = place

    def __eq__(self, other):
        return type(other) is Place and self.places == other.places and self.place == other.place

    def at(self, row, things):
        """What stands at this place of the input."""
        demand_input(self, row, things)
        return row[self.place]

    def over(self, things):
        """The Told of all values over a world of so many things."""
        rows = inputs(things, self.places)
        return Told(things, self.places, [row[self.place] for row in rows])


class Thing(Worker):
    """Tells the thing 0, or the thing 1, at all inputs."""

    def __init__(self, places, thing):
        Worker.__init__(self, places)
        demand_number(thing, 0, 1, "thing")
        self.thing = thing

    def __eq__(self, other):
        return type(other) is Thing and self.places == other.places and self.thing == other.thing

    def at(self, row, things):
        """This thing, if the world has it."""
        demand_input(self, row, things)
        if self.thing >= things:
            raise Misfit("things")
        return self.thing

    def over(self, things):
        """The Told of all values over a world of so many things."""
        return told_over(self, things)
